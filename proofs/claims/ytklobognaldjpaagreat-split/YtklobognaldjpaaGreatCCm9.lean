/- The maker of code: calls. The maker of code: expressions. The maker of code: two operands; every expression. -/
import Derived.Test.YtklobognaldjpaaGreatCCm6
import Derived.Test.YtklobognaldjpaaGreatCLk6
set_option maxRecDepth 1000000
set_option maxHeartbeats 2000000
namespace Go.Proofs.YtklobognaldjpaaGreat
open Go.RowKit
theorem cExs_take (E : CE) : ∀ (l : List Ex) (p j : Nat) (e : Ex), l[j]? = some e -> cExs E p (l.take (j + 1)) = cExs E p (l.take j) ++ cEx E (p + (cExs E p (l.take j)).length) e
 | [], p, j, e, h => by simp at h
 | a :: l, p, 0, e, h => by
  simp at h; subst h
  rw [List.take_succ_cons, List.take_zero, List.take_zero, cExs, cExs, cExs]
  simp
 | a :: l, p, j + 1, e, h => by
  rw [List.take_succ_cons, List.take_succ_cons, cExs, cExs, cExs_take E l _ j e (by simpa using h), List.append_assoc, List.length_append, Nat.add_assoc]
theorem cExs_take_le (E : CE) : ∀ (l : List Ex) (p j : Nat), (cExs E p (l.take j)).length <= (cExs E p l).length
 | [], p, j => by simp
 | a :: l, p, 0 => by rw [List.take_zero, cExs]; simp
 | a :: l, p, j + 1 => by
  rw [List.take_succ_cons, cExs, cExs, List.length_append, List.length_append]
  have := cExs_take_le E l (p + (cEx E p a).length) j
  omega
section
variable {base mb gm ng nl : Nat} {lm : Option Nat} {w w' : World} {M : Mkr} {v v' : Value}
def callC (E : CE) (p : Nat) (n : ByteArray) (args : List Ex) : List Nat := cExs E p args ++ [24, (E.g n).1, args.length]
theorem mcall_any {E : CE} {args : List Ex} (ih : ∀ e ∈ args, EX base mb gm ng nl lm E e) {Q : Nat -> Prop} {va : Value} {vs : List Value} {n : ByteArray} (q : Nat) (hn : n.size <= maxLen) (h : MK base mb gm ng nl lm w M v) (hE : M.E = E)
  (hS : SliceV Q w va vs) (hA : RAll Q w vs args) (hQ : ∀ b, Q b -> b < base /\ b ≠ mb) (hlen : args.length <= 602) (hO : OkExs args) (hbig : M.words.length + (callC E M.words.length n args).length <= 1000000) :
  Calls Tryz.prog 158 #[.pointer (some ⟨mb, 0, none⟩), .agg #[.string n, .int .i64 q], va] w (MPost base mb gm ng nl lm (M.more ((callC E M.words.length n args).map Int.ofNat)) v w) := by
 have hlt := h.lt
 have hf0 := gField0
 have hvl := hA.1
 have hcl : (callC E M.words.length n args).length = (cExs E M.words.length args).length + 3 := by unfold callC; simp
 rw [hcl] at hbig
 obtain ⟨sa, scap, rfl⟩ := hS.len
 have k1 : ∀ A, Below w.heap.size w (w.alloc A) := fun A => (Below.refl _ _).alloc (Nat.le_refl _) _
 have HX : Hid (∀ (j : Nat) (hj : j < vs.length) (A : Obj) (wr : World) (vr : Value), MK base mb gm ng nl lm wr (M.more ((cExs E M.words.length (args.take j)).map Int.ofNat)) vr -> Mv mb v vr (w.alloc A) wr ->
   Calls Tryz.prog 155 #[.pointer (some ⟨mb, 0, none⟩), vs[j]] wr (fun e w' => e = .returned (.tuple #[]) /\ ∃ v', MK base mb gm ng nl lm w' (M.more ((cExs E M.words.length (args.take (j + 1))).map Int.ofNat)) v' /\ Mv mb vr v' wr w')) := by
  intro j hj A wr vr hM hk
  have hja : j < args.length := by omega
  have he : args[j]? = some args[j] := List.getElem?_eq_getElem hja
  have hml : (M.more ((cExs E M.words.length (args.take j)).map Int.ofNat)).words.length = M.words.length + (cExs E M.words.length (args.take j)).length := by rw [more_len, List.length_map]
  have hst := cExs_take E args M.words.length j _ he
  have hle := cExs_take_le E args M.words.length (j + 1)
  rw [hst, List.length_append] at hle
  have := ih _ (List.getElem_mem hja) Q wr vs[j] _ vr hM hE ((hA.2 j _ _ (List.getElem?_eq_getElem hj) he).keep (((Mv.of_below (mb := mb) (v := v) (k1 A)).trans hk).keepQ h hQ)) hQ (okExs_at hO he) (by rw [hml]; omega)
  rw [hml] at this
  unfold MPost at this
  rw [more_more, <- List.map_append, <- hst] at this
  exact this
 have HS : Hid (SliceV Q w (.slice sa vs.length scap) vs) := hS
 have hb2 : (M.more ((cExs E M.words.length args).map Int.ofNat)).words.length + 3 <= 1000000 := by rw [more_len, List.length_map]; omega
 have hF : (M.more ((cExs E M.words.length args).map Int.ofNat)).more [24, ((E.g n).1 : Int), (args.length : Int)] = M.more ((callC E M.words.length n args).map Int.ofNat) := by
  rw [more_more]; unfold callC; simp
 have L1 := fun W V (hM : MK base mb gm ng nl lm W (M.more ((cExs E M.words.length args).map Int.ofNat)) V) => lay0d hM [24, ((E.g n).1 : Int), (args.length : Int)] 3 (by simpa using hb2)
 rw [hF, <- hvl] at L1
 have HVL : Hid (vs.length = args.length) := hvl
 have hvle : vs.length <= 602 := by omega
 have HSg := fun W V (hM : MK base mb gm ng nl lm W (M.more ((cExs E M.words.length args).map Int.ofNat)) V) => findS hM hn
 have HS9 := fun W V (hM : MK base mb gm ng nl lm W (M.more ((callC E M.words.length n args).map Int.ofNat)) V) => findS2 hM hn
 rw [more_E, hE] at HSg HS9
 unfold symV at HSg HS9
 generalize E.g n = gn at *
 clear hF hb2 hbig hcl hS
 generalize M.more ((callC E M.words.length n args).map Int.ofNat) = M9 at *
 have hM0 : M.more ((cExs E M.words.length (args.take 0)).map Int.ofNat) = M := by rw [List.take_zero, cExs]; unfold Mkr.more; simp
 have HT : Hid (∀ j, ¬ j < vs.length -> args.take j = args) := fun j hj => List.take_of_length_le (by omega)
 clear hvl
 generalize hMj : (fun l => M.more ((cExs E M.words.length l).map Int.ofNat)) = Mj at *
 have HMj : ∀ l, M.more ((cExs E M.words.length l).map Int.ofNat) = Mj l := fun l => by rw [<- hMj]
 rw [HMj] at hM0
 simp only [HMj] at HX L1 HSg
 clear hMj HMj
 go_enter Tryz.func158, Tryz.ntmps158
 go_wp2
 go_loopw [7, 10] (fun _ i wr => ∃ (j : Nat) (vr : Value), i = .int .i64 j /\ j <= vs.length /\ MK base mb gm ng nl lm wr (Mj (args.take j)) vr /\ Mv mb v vr (w.alloc (.cells #[.string n, .int .i64 q] 210)) wr) (fun _ i _ => vs.length - (intOf i).toNat)
 case atStart => exact ⟨0, v, rfl, Nat.zero_le _, by rw [hM0]; exact h.below (k1 _), Mv.refl _ _ _⟩
 case round =>
  obtain ⟨j, vr, rfl, hj, hM, hk⟩ := hrel
  by_cases hlt2 : j < vs.length
  ·have hjv : j < vs.length := hlt2
   obtain ⟨b, cap, hv, hqb, hbl, hcell⟩ := HS.out.at hjv
   injection hv with hv1 hv2 hv3
   subst hv1 hv3
   clear hv2
   have hkk := (Mv.of_below (mb := mb) (v := v) (k1 (.cells #[.string n, .int .i64 q] 210))).trans hk
   have hcw : wr.cell? ⟨b, j, none⟩ = some vs[j] := (hkk.1.cell hbl (by
    rintro (e | e)
    ·exact (hQ b hqb).2 e
    ·have := (h.row b e).1; have := (hQ b hqb).1; omega) j).trans hcell
   have hX := HX.out j hjv _ wr vr hM hk
   clear hcell HX HS
   generalize vs[j] = vj at *
   go_wp2_with (go_at_call 155; refine hX.mono ?_; rintro e w5 ⟨rfl, v5, hM5, hk5⟩)
   go_roundw
   case rel => exact ⟨j + 1, v5, by go_num, by omega, hM5, hk.trans hk5⟩
   case measure => simp [intOf]; omega
  ·rw [HT.out j hlt2] at hM
   have hL := L1 _ _ hM
   have hn2 := Mv.new h hk 0
   have hlt3 : w.heap.size < wr.heap.size := lt_of_cell (v := .string n) hn2
   obtain ⟨a1, a2, a3⟩ := HSg _ _ hM
   have hmb3 : w.heap.size ≠ mb := by omega
   have hne3 : vr.ownBlock ≠ some w.heap.size := by
    intro e
    rcases hk.2 with h5 | h5
    ·rw [h5] at e; have := (h.row _ e).2.1; omega
    ·have h6 := h5 _ e
     have h7 : ∀ B, (w.alloc B).heap.size = w.heap.size + 1 := fun B => by simp
     rw [h7] at h6
     omega
   have hS0 : Hid (wr.drew.cell? ⟨mb, 2, none⟩ = some (.map (some gm)) /\ wr.drew.cell? ⟨w.heap.size, 0, none⟩ = some (.string n) /\ (Instr.lookup 170 (.map (some gm)) (.string n) false).run Tryz.prog wr.drew = .ok (.agg #[.int .i64 (gn.1 : Nat), .int .i64 (gn.2 : Nat)]) wr.drew) := ⟨a1, hn2, a2⟩
   have hS1 : Hid (∀ B, (wr.alloc B).drew.cell? ⟨mb, 2, none⟩ = some (.map (some gm)) /\ (wr.alloc B).drew.cell? ⟨w.heap.size, 0, none⟩ = some (.string n) /\ (Instr.lookup 170 (.map (some gm)) (.string n) false).run Tryz.prog (wr.alloc B).drew = .ok (.agg #[.int .i64 (gn.1 : Nat), .int .i64 (gn.2 : Nat)]) (wr.alloc B).drew) := fun B => ⟨(a3 B).1, by rw [show (wr.alloc B).drew.cell? ⟨w.heap.size, 0, none⟩ = (wr.alloc B).cell? ⟨w.heap.size, 0, none⟩ from rfl, World.cell?_alloc_lt _ _ _ hlt3]; exact hn2, (a3 B).2⟩
   clear a1 a2 a3 HX HS
   go_wp2
   go_region_held3 (fun W => W.cell? ⟨mb, 2, none⟩ = some (.map (some gm)) /\ W.cell? ⟨w.heap.size, 0, none⟩ = some (.string n) /\ (Instr.lookup 170 (.map (some gm)) (.string n) false).run Tryz.prog W = .ok (.agg #[.int .i64 (gn.1 : Nat), .int .i64 (gn.2 : Nat)]) W) (first | exact hS0.out | exact hS1.out _ | exact hS3.out) ((go_at_call 101; refine hL.mono ?_; rintro e w3 ⟨rfl, v3, hM3, hv3⟩; have hS3 : Hid (w3.cell? ⟨mb, 2, none⟩ = some (.map (some gm)) /\ w3.cell? ⟨w.heap.size, 0, none⟩ = some (.string n) /\ (Instr.lookup 170 (.map (some gm)) (.string n) false).run Tryz.prog w3 = .ok (.agg #[.int .i64 (gn.1 : Nat), .int .i64 (gn.2 : Nat)]) w3) := ⟨(HS9 _ _ hM3).1, (hv3.1.cell hlt3 (by rintro (e | e); exact hmb3 e; exact hne3 e) 0).trans hn2, (HS9 _ _ hM3).2⟩))
   all_goals go_wp2
   all_goals go_end0
   all_goals exact ⟨rfl, v3, hM3, (Mv.of_below (k1 _)).trans (hk.trans hv3)⟩
end
@[go_sem] theorem asNumber_nil (w : World) : (Instr.typeAssert .nilIface 251 283 true).run Tryz.prog w = .ok (.tuple #[.agg #[.int .i64 0], .bool false]) w := by kernel_rfl
@[go_sem] theorem asNumber_yes (v : Value) (w : World) : (Instr.typeAssert (.iface 283 v) 251 283 true).run Tryz.prog w = .ok (.tuple #[v, .bool true]) w := by kernel_rfl
@[go_sem] theorem asNumber_no (u : TypeId) (v : Value) (w : World) (h : u ≠ 283) : (Instr.typeAssert (.iface u v) 251 283 true).run Tryz.prog w = .ok (.tuple #[.agg #[.int .i64 0], .bool false]) w := by
 have e : (Instr.typeAssert (.iface u v) 251 283 true).run Tryz.prog w = (if u = 283 then (pure (Value.tuple #[v, .bool true]) : Sem Value) else (do pure (Value.tuple #[<- zeroValue 283, .bool false]))).run Tryz.prog w := by kernel_rfl
 have z : (do pure (Value.tuple #[<- zeroValue 283, .bool false]) : Sem Value).run Tryz.prog w = .ok (.tuple #[.agg #[.int .i64 0], .bool false]) w := by kernel_rfl
 rw [e, if_neg h]; exact z
section
variable {base mb gm ng nl : Nat} {lm : Option Nat} {w w' : World} {M : Mkr} {v v' : Value}
theorem lay1n (h : MK base mb gm ng nl lm w M v) (A : Obj) (ks : List Int) (t : TypeId) (hbig : M.words.length + ks.length <= 1000000) :
  Calls Tryz.prog 101 #[.pointer (some ⟨mb, 0, none⟩), .slice (some ⟨w.heap.size + 1, 0, none⟩) ks.length ks.length] ((w.alloc A).alloc (.cells (ks.map (Value.int .i64)).toArray t))
   fun e w' => e = .returned (.int .i64 M.words.length) /\ ∃ v', MK base mb gm ng nl lm w' (M.more ks) v' /\ Mv mb v v' w w' := by
 refine layB h (((Below.refl _ _).alloc (Nat.le_refl _) A).alloc (by simp) _) ?_ hbig
 have := newCells (w.alloc A) ks t
 rw [show (w.alloc A).heap.size = w.heap.size + 1 from by simp] at this
 exact this
theorem keepA {Q : Nat -> Prop} (h : MK base mb gm ng nl lm w M v) (hQ : ∀ b, Q b -> b < base /\ b ≠ mb) (A : Obj) : KeepQ Q w (w.alloc A) :=
 (Mv.of_below (mb := mb) (v := v) ((Below.refl _ _).alloc (Nat.le_refl _) A)).keepQ h hQ
theorem ex_num {E : CE} (x : Nat) : EX base mb gm ng nl lm E (.num x) := by
 intro Q w ve M v h hE hR hQ hO hbig
 cases hR with
 | num _ =>
 rw [cEx] at hbig ⊢
 have hlt := h.lt
 have L1 := fun A => lay1n h A [2, (x : Int)] 3 (by simpa using hbig)
 go_enter Tryz.func155, Tryz.ntmps155
 go_wp2_with (go_at_call 101; refine (L1 _).mono ?_; rintro e w2 ⟨rfl, v2, hM2, hv2⟩)
 go_end0
 exact ⟨rfl, v2, hM2, hv2⟩
theorem ex_var {E : CE} (n : ByteArray) (p : Nat) : EX base mb gm ng nl lm E (.var n p) := by
 intro Q w ve M v h hE hR hQ hO hbig
 cases hR with
 | var _ _ =>
 rw [OkEx] at hO
 rw [cEx] at hbig ⊢
 have hlt := h.lt
 have hn : n.size <= maxLen := by have := hO.2; unfold maxLen; omega
 have hgl : (E.get n).length = 2 := by unfold CE.get; split <;> rfl
 have k1 : ∀ A, Below w.heap.size w (w.alloc A) := fun A => (Below.refl _ _).alloc (Nat.le_refl _) _
 have hG := fun A => get_any (h.below (k1 A)) hn p (by omega)
 rw [hE] at hG
 unfold MPost at hG
 go_enter Tryz.func155, Tryz.ntmps155
 go_wp2_with (go_at_call 181; refine (hG _).mono ?_; rintro e w2 ⟨rfl, v2, hM2, hv2⟩)
 go_end0
 exact ⟨rfl, v2, hM2, (Mv.of_below (k1 _)).trans hv2⟩
theorem ex_elem {E : CE} (n : ByteArray) (p : Nat) {i : Ex} (ih : EX base mb gm ng nl lm E i) : EX base mb gm ng nl lm E (.elem n p i) := by
 intro Q w ve M v h hE hR hQ hO hbig
 cases hR with
 | elem _ _ hi =>
 rename_i vi
 have hci := hi.cells
 have hti := run_store_one hi.one
 rw [OkEx] at hO
 have hlt := h.lt
 have hn : n.size <= maxLen := by have := hO.1.2; unfold maxLen; omega
 have k1 : ∀ A, Below w.heap.size w (w.alloc A) := fun A => (Below.refl _ _).alloc (Nat.le_refl _) _
 have hcl : (cEx E M.words.length (.elem n p i)).length = (findC E M.words.length n i).length + 1 := by rw [cEx]; unfold findC; simp
 rw [hcl] at hbig
 have hF := fun A => cfind_any ih p hn (h.below (k1 A)) hE (hi.keep (keepA h hQ A)) hQ hO.2 (by omega)
 have hb2 : (M.more ((findC E M.words.length n i).map Int.ofNat)).words.length + 1 <= 1000000 := by rw [more_len, List.length_map]; omega
 have e9 : (M.more ((findC E M.words.length n i).map Int.ofNat)).more [8] = M.more ((cEx E M.words.length (.elem n p i)).map Int.ofNat) := by
  rw [more_more, cEx]; unfold findC; simp
 have L1 := fun W V (hM : MK base mb gm ng nl lm W (M.more ((findC E M.words.length n i).map Int.ofNat)) V) => lay0 hM [8] 3 (by simpa using hb2)
 rw [e9] at L1
 unfold MPost at hF
 clear e9 hb2 hcl hbig
 generalize M.more ((findC E M.words.length n i).map Int.ofNat) = M1 at *
 generalize M.more ((cEx E M.words.length (.elem n p i)).map Int.ofNat) = M9 at *
 go_enter Tryz.func155, Tryz.ntmps155
 go_wp2_with (first
  | (go_at_call 157; refine (hF _).mono ?_; rintro e w2 ⟨rfl, v2, hM2, hv2⟩)
  | (go_at_call 101; refine (L1 _ _ hM2).mono ?_; rintro e w3 ⟨rfl, v3, hM3, hv3⟩))
 go_end0
 exact ⟨rfl, v3, hM3, (Mv.of_below (k1 _)).trans (hv2.trans hv3)⟩
theorem ex_call {E : CE} (n : ByteArray) (p : Nat) {args : List Ex} (ih : ∀ e ∈ args, EX base mb gm ng nl lm E e) : EX base mb gm ng nl lm E (.call n p args) := by
 intro Q w ve M v h hE hR hQ hO hbig
 cases hR with
 | call _ _ hS hl hA =>
 rename_i va vs
 rw [OkEx] at hO
 have hlt := h.lt
 have hn : n.size <= maxLen := by have := hO.1.2; unfold maxLen; omega
 have k1 : ∀ A, Below w.heap.size w (w.alloc A) := fun A => (Below.refl _ _).alloc (Nat.le_refl _) _
 have hcc : cEx E M.words.length (.call n p args) = callC E M.words.length n args := by rw [cEx]; rfl
 rw [hcc] at hbig ⊢
 have hF := fun A => mcall_any ih p hn (h.below (k1 A)) hE (hS.keep (keepA h hQ A)) ⟨hl, fun j x y h1 h2 => (hA j x y h1 h2).keep (keepA h hQ A)⟩ hQ hO.2.1 hO.2.2 hbig
 obtain ⟨sa, sc, rfl⟩ := hS.len
 unfold MPost at hF
 clear hbig hcc hl hA hS
 generalize M.more ((callC E M.words.length n args).map Int.ofNat) = M9 at *
 go_enter Tryz.func155, Tryz.ntmps155
 go_wp2_with (go_at_call 158; refine (hF _).mono ?_; rintro e w2 ⟨rfl, v2, hM2, hv2⟩)
 go_end0
 exact ⟨rfl, v2, hM2, (Mv.of_below (k1 _)).trans hv2⟩
theorem ex_un {E : CE} (op : ByteArray) {e : Ex} (ih : EX base mb gm ng nl lm E e) : EX base mb gm ng nl lm E (.un op e) := by
 intro Q w ve M v h hE hR hQ hO hbig
 cases hR with
 | un _ hi =>
 rename_i vi
 have hci := hi.cells
 have hti := run_store_one hi.one
 rw [OkEx] at hO
 have hlt := h.lt
 have k1 : ∀ A, Below w.heap.size w (w.alloc A) := fun A => (Below.refl _ _).alloc (Nat.le_refl _) _
 have hcl : (cEx E M.words.length (.un op e)).length = (cEx E M.words.length e).length + 1 := by rw [cEx]; simp
 rw [hcl] at hbig
 have hF := fun A => ih Q _ vi M v (h.below (k1 A)) hE (hi.keep (keepA h hQ A)) hQ hO (by omega)
 have hb2 : (M.more ((cEx E M.words.length e).map Int.ofNat)).words.length + 1 <= 1000000 := by rw [more_len, List.length_map]; omega
 have e9 : (M.more ((cEx E M.words.length e).map Int.ofNat)).more [((unNum op : Nat) : Int)] = M.more ((cEx E M.words.length (.un op e)).map Int.ofNat) := by
  rw [more_more, cEx]; simp
 have L1 := fun W V (hM : MK base mb gm ng nl lm W (M.more ((cEx E M.words.length e).map Int.ofNat)) V) => lay0 hM [((unNum op : Nat) : Int)] 3 (by simpa using hb2)
 rw [e9] at L1
 have hU := fun W => unary_any op W
 unfold MPost at hF
 clear e9 hb2 hcl hbig
 generalize M.more ((cEx E M.words.length e).map Int.ofNat) = M1 at *
 generalize M.more ((cEx E M.words.length (.un op e)).map Int.ofNat) = M9 at *
 generalize unNum op = un at *
 go_enter Tryz.func155, Tryz.ntmps155
 go_wp2_with (first
  | (go_at_call 155; refine (hF _).mono ?_; rintro e w2 ⟨rfl, v2, hM2, hv2⟩; have hc2 := Mv.new h hv2 0)
  | (go_at_call 183; refine (hU _).mono ?_; rintro e w4 ⟨rfl, h9⟩; cases h9)
  | (go_at_call 101; refine (L1 _ _ hM2).mono ?_; rintro e w3 ⟨rfl, v3, hM3, hv3⟩))
 go_end0
 exact ⟨rfl, v3, hM3, (Mv.of_below (k1 _)).trans (hv2.trans hv3)⟩
end
section
variable {base mb gm ng nl : Nat} {lm : Option Nat} {w w' : World} {M : Mkr} {v v' : Value}
theorem ex_nil {E : CE} : EX base mb gm ng nl lm E .nil := by
 intro Q w ve M v h hE hR hQ hO hbig
 cases hR
 rw [cEx]
 go_enter Tryz.func155, Tryz.ntmps155
 go_wp2
 go_end0
 exact ⟨rfl, v, by unfold Mkr.more; simpa using h, Mv.refl _ _ _⟩
theorem Mv.new3 {a b c : Value} {t : TypeId} (h : MK base mb gm ng nl lm w M v) (hk : Mv mb v v' (w.alloc (.cells #[a, b, c] t)) w') :
  w'.cell? ⟨w.heap.size, 0, none⟩ = some a /\ w'.cell? ⟨w.heap.size, 1, none⟩ = some b /\ w'.cell? ⟨w.heap.size, 2, none⟩ = some c :=
 ⟨Mv.new h hk 0, Mv.new h hk 1, Mv.new h hk 2⟩
theorem binary_any {E : CE} {l r : Ex} (ihl : EX base mb gm ng nl lm E l) (ihr : EX base mb gm ng nl lm E r) {Q : Nat -> Prop} {vl vr : Value} (op : ByteArray) (h : MK base mb gm ng nl lm w M v) (hE : M.E = E) (hl : REx Q w vl l) (hr : REx Q w vr r) (hQ : ∀ b, Q b -> b < base /\ b ≠ mb) (hOl : OkEx l) (hOr : OkEx r)
  (hbig : M.words.length + (cEx E M.words.length (.bin op l r)).length <= 1000000) :
  Calls Tryz.prog 182 #[.pointer (some ⟨mb, 0, none⟩), .agg #[.string op, vl, vr]] w (MPost base mb gm ng nl lm (M.more ((cEx E M.words.length (.bin op l r)).map Int.ofNat)) v w) := by
 have hcl := hl.cells
 have hcr := hr.cells
 have hsl := run_store_one hl.one
 have hsr := run_store_one hr.one
 have hlt := h.lt
 have k1 : ∀ A, Below w.heap.size w (w.alloc A) := fun A => (Below.refl _ _).alloc (Nat.le_refl _) _
 have hm1 : (M.more ((cEx E M.words.length l).map Int.ofNat)).words.length = M.words.length + (cEx E M.words.length l).length := by rw [more_len, List.length_map]
 have hrk : ∀ A W V, Mv mb v V (w.alloc A) W -> REx Q W vr r := fun A W V hk => hr.keep (((Mv.of_below (mb := mb) (v := v) (k1 A)).trans hk).keepQ h hQ)
 have hle : (cEx E M.words.length l).length <= (cEx E M.words.length (.bin op l r)).length := by
  rw [cEx]; split
  ·simp only [List.length_append]; omega
  ·split <;> simp only [List.length_append] <;> omega
 have hxl := fun A => ihl Q (w.alloc A) vl M v (h.below (k1 A)) hE (hl.keep (keepA h hQ A)) hQ hOl (by omega)
 by_cases h1 : isW op [97, 110, 100] = true
 ·have e9 : (M.more ((cEx E M.words.length l).map Int.ofNat)).more ((andC E (M.words.length + (cEx E M.words.length l).length) r).map Int.ofNat) = M.more ((cEx E M.words.length (.bin op l r)).map Int.ofNat) := by
   rw [more_more, cEx, if_pos h1]; unfold andC; simp
  have hlen : (cEx E M.words.length l).length + (andC E (M.words.length + (cEx E M.words.length l).length) r).length <= (cEx E M.words.length (.bin op l r)).length := by
   rw [cEx, if_pos h1]; unfold andC; simp
  have hxa := fun A W V (hM : MK base mb gm ng nl lm W (M.more ((cEx E M.words.length l).map Int.ofNat)) V) (hk : Mv mb v V (w.alloc A) W) => and_any ihr hM hE (hrk A W V hk) hQ hOr (by rw [hm1]; omega)
  rw [hm1] at hxa
  rw [e9] at hxa
  clear e9 hlen hle hm1 hbig
  have hop : (op.toList == [97, 110, 100]) = true := h1
  unfold MPost at hxl hxa
  generalize M.more ((cEx E M.words.length l).map Int.ofNat) = M1 at *
  generalize M.more ((cEx E M.words.length (.bin op l r)).map Int.ofNat) = M9 at *
  go_enter Tryz.func182, Tryz.ntmps182
  go_wp2_with (first
   | (go_at_call 155; refine (hxl _).mono ?_; rintro e w2 ⟨rfl, v2, hM2, hv2⟩; obtain ⟨hc0, hc1, hc2⟩ := Mv.new3 h hv2)
   | (go_at_call 199; refine (hxa _ _ _ hM2 hv2).mono ?_; rintro e w3 ⟨rfl, v3, hM3, hv3⟩))
  all_goals go_end0
  all_goals exact ⟨rfl, v3, hM3, (Mv.of_below (k1 _)).trans (hv2.trans hv3)⟩
 ·have h1' : isW op [97, 110, 100] = false := by simpa using h1
  by_cases h2 : isW op [111, 114] = true
  ·have e9 : (M.more ((cEx E M.words.length l).map Int.ofNat)).more ((orC E (M.words.length + (cEx E M.words.length l).length) r).map Int.ofNat) = M.more ((cEx E M.words.length (.bin op l r)).map Int.ofNat) := by
    rw [more_more, cEx, if_neg h1, if_pos h2]; unfold orC; simp
   have hlen : (cEx E M.words.length l).length + (orC E (M.words.length + (cEx E M.words.length l).length) r).length <= (cEx E M.words.length (.bin op l r)).length := by
    rw [cEx, if_neg h1, if_pos h2]; unfold orC; simp
   have hxa := fun A W V (hM : MK base mb gm ng nl lm W (M.more ((cEx E M.words.length l).map Int.ofNat)) V) (hk : Mv mb v V (w.alloc A) W) => or_any ihr hM hE (hrk A W V hk) hQ hOr (by rw [hm1]; omega)
   rw [hm1] at hxa
   rw [e9] at hxa
   clear e9 hlen hle hm1 hbig
   have hop1 : (op.toList == [97, 110, 100]) = false := h1'
   have hop : (op.toList == [111, 114]) = true := h2
   unfold MPost at hxl hxa
   generalize M.more ((cEx E M.words.length l).map Int.ofNat) = M1 at *
   generalize M.more ((cEx E M.words.length (.bin op l r)).map Int.ofNat) = M9 at *
   go_enter Tryz.func182, Tryz.ntmps182
   go_wp2_with (first
    | (go_at_call 155; refine (hxl _).mono ?_; rintro e w2 ⟨rfl, v2, hM2, hv2⟩; obtain ⟨hc0, hc1, hc2⟩ := Mv.new3 h hv2)
    | (go_at_call 200; refine (hxa _ _ _ hM2 hv2).mono ?_; rintro e w3 ⟨rfl, v3, hM3, hv3⟩))
   all_goals go_end0
   all_goals exact ⟨rfl, v3, hM3, (Mv.of_below (k1 _)).trans (hv2.trans hv3)⟩
  ·have h2' : isW op [111, 114] = false := by simpa using h2
   have e9 : ((M.more ((cEx E M.words.length l).map Int.ofNat)).more ((cEx E (M.words.length + (cEx E M.words.length l).length) r).map Int.ofNat)).more [((opNum op : Nat) : Int)] = M.more ((cEx E M.words.length (.bin op l r)).map Int.ofNat) := by
    rw [more_more, more_more, cEx, if_neg h1, if_neg h2]; simp
   have hlen : (cEx E M.words.length l).length + (cEx E (M.words.length + (cEx E M.words.length l).length) r).length + 1 <= (cEx E M.words.length (.bin op l r)).length := by
    rw [cEx, if_neg h1, if_neg h2]; simp; omega
   have hxa := fun A W V (hM : MK base mb gm ng nl lm W (M.more ((cEx E M.words.length l).map Int.ofNat)) V) (hk : Mv mb v V (w.alloc A) W) => ihr Q W vr _ V hM hE (hrk A W V hk) hQ hOr (by rw [hm1]; omega)
   rw [hm1] at hxa
   have hb2 : ((M.more ((cEx E M.words.length l).map Int.ofNat)).more ((cEx E (M.words.length + (cEx E M.words.length l).length) r).map Int.ofNat)).words.length + 1 <= 1000000 := by rw [more_len, hm1, List.length_map]; omega
   have L1 := fun W V (hM : MK base mb gm ng nl lm W ((M.more ((cEx E M.words.length l).map Int.ofNat)).more ((cEx E (M.words.length + (cEx E M.words.length l).length) r).map Int.ofNat)) V) => lay0 hM [((opNum op : Nat) : Int)] 3 (by simpa using hb2)
   rw [e9] at L1
   have hU := fun W => operation_any op W
   have hnew : ∀ A t W V W2 V2, Mv mb v V (w.alloc (.cells A t)) W -> Mv mb V V2 W W2 -> ∀ o, W2.cell? ⟨w.heap.size, o, none⟩ = A[o]? := fun A t W V W2 V2 a b o => Mv.new h (a.trans b) o
   clear e9 hlen hle hm1 hbig hb2
   have hop1 : (op.toList == [97, 110, 100]) = false := h1'
   have hop : (op.toList == [111, 114]) = false := h2'
   unfold MPost at hxl hxa
   generalize (M.more ((cEx E M.words.length l).map Int.ofNat)).more ((cEx E (M.words.length + (cEx E M.words.length l).length) r).map Int.ofNat) = M2 at *
   generalize M.more ((cEx E M.words.length l).map Int.ofNat) = M1 at *
   generalize M.more ((cEx E M.words.length (.bin op l r)).map Int.ofNat) = M9 at *
   generalize opNum op = on at *
   go_enter Tryz.func182, Tryz.ntmps182
   go_wp2_with (first
    | (go_at_call 155; have _q := hM2; refine (hxa _ _ _ hM2 hv2).mono ?_; rintro e w3 ⟨rfl, v3, hM3, hv3⟩; have hd0 := hnew _ _ _ _ _ _ hv2 hv3 0)
    | (go_at_call 155; refine (hxl _).mono ?_; rintro e w2 ⟨rfl, v2, hM2, hv2⟩; obtain ⟨hc0, hc1, hc2⟩ := Mv.new3 h hv2)
    | (go_at_call 201; refine (hU _).mono ?_; rintro e w4 ⟨rfl, h9⟩; cases h9)
    | (go_at_call 101; refine (L1 _ _ hM3).mono ?_; rintro e w5 ⟨rfl, v5, hM5, hv5⟩))
   all_goals go_end0
   all_goals exact ⟨rfl, v5, hM5, (Mv.of_below (k1 _)).trans (hv2.trans (hv3.trans hv5))⟩
theorem ex_bin {E : CE} (op : ByteArray) {l r : Ex} (ihl : EX base mb gm ng nl lm E l) (ihr : EX base mb gm ng nl lm E r) : EX base mb gm ng nl lm E (.bin op l r) := by
 intro Q w ve M v h hE hR hQ hO hbig
 cases hR with
 | bin _ hl hr =>
 rename_i vl vr
 have hcl := hl.cells
 have hcr := hr.cells
 have hsl := run_store_one hl.one
 have hsr := run_store_one hr.one
 rw [OkEx] at hO
 have hlt := h.lt
 have k1 : ∀ A, Below w.heap.size w (w.alloc A) := fun A => (Below.refl _ _).alloc (Nat.le_refl _) _
 have hF := fun A => binary_any ihl ihr op (h.below (k1 A)) hE (hl.keep (keepA h hQ A)) (hr.keep (keepA h hQ A)) hQ hO.1 hO.2 hbig
 unfold MPost at hF
 clear hbig
 generalize M.more ((cEx E M.words.length (.bin op l r)).map Int.ofNat) = M9 at *
 go_enter Tryz.func155, Tryz.ntmps155
 go_wp2_with (go_at_call 182; refine (hF _).mono ?_; rintro e w2 ⟨rfl, v2, hM2, hv2⟩)
 go_end0
 exact ⟨rfl, v2, hM2, (Mv.of_below (k1 _)).trans hv2⟩
mutual
theorem ex_any {E : CE} : ∀ e, EX base mb gm ng nl lm E e
 | .nil => ex_nil
 | .num x => ex_num x
 | .var n p => ex_var n p
 | .elem n p i => ex_elem n p (ex_any i)
 | .call n p args => ex_call n p (exs_any args)
 | .bin op l r => ex_bin op (ex_any l) (ex_any r)
 | .un op e => ex_un op (ex_any e)
theorem exs_any {E : CE} : ∀ (l : List Ex), ∀ e ∈ l, EX base mb gm ng nl lm E e
 | [] => fun e he => by simp at he
 | a :: l => fun e he => by
  have h0 := ex_any (E := E) a
  have h1 := exs_any (E := E) l
  rcases List.mem_cons.1 he with h | h
  ·rw [h]; exact h0
  ·exact h1 e h
end
end
end Go.Proofs.YtklobognaldjpaaGreat
