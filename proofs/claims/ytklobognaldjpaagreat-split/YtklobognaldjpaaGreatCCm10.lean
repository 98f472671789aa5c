/- The maker of code: statements. -/
import Derived.Test.YtklobognaldjpaaGreatCCm9
import Derived.Test.YtklobognaldjpaaGreatCWh2
set_option maxRecDepth 1000000
set_option maxHeartbeats 1000000
namespace Go.Proofs.YtklobognaldjpaaGreat
open Go.RowKit
mutual
theorem whEx_ok : ∀ e, WhEx e -> OkEx e
 | .nil, h => by rw [WhEx] at h; exact h.elim
 | .num _, _ => by rw [OkEx]; trivial
 | .var n p, h => by rw [WhEx] at h; rw [OkEx]; exact h
 | .elem n p i, h => by rw [WhEx] at h; rw [OkEx]; exact ⟨h.1, whEx_ok i h.2⟩
 | .call n p args, h => by rw [WhEx] at h; rw [OkEx]; exact ⟨h.1, h.2.1, whExs_ok args h.2.2⟩
 | .bin op l r, h => by rw [WhEx] at h; rw [OkEx]; exact ⟨whEx_ok l h.1, whEx_ok r h.2⟩
 | .un op e, h => by rw [WhEx] at h; rw [OkEx]; exact whEx_ok e h
theorem whExs_ok : ∀ l, WhExs l -> OkExs l
 | [], _ => by rw [OkExs]; trivial
 | e :: l, h => by rw [WhExs] at h; rw [OkExs]; exact ⟨whEx_ok e h.1, whExs_ok l h.2⟩
end
theorem nm_size {n : ByteArray} (h : NmOk n) : n.size <= maxLen := by have := h.2; unfold maxLen; omega
section
variable {base mb gm ng nl : Nat} {lm : Option Nat} {w w' : World} {M : Mkr} {v v' : Value}
def ST (base mb gm ng nl : Nat) (lm : Option Nat) (E : CE) (s : St) : Prop :=
 ∀ (Q : Nat -> Prop) (w : World) (ve : Value) (M : Mkr) (v : Value), MK base mb gm ng nl lm w M v -> M.E = E -> RSt Q w ve s -> (∀ b, Q b -> b < base /\ b ≠ mb) -> WhSt s -> M.words.length + (cSt E M.words.length s).length <= 1000000 ->
  Calls Tryz.prog 132 #[.pointer (some ⟨mb, 0, none⟩), ve] w (MPost base mb gm ng nl lm (M.more ((cSt E M.words.length s).map Int.ofNat)) v w)
def SL (base mb gm ng nl : Nat) (lm : Option Nat) (E : CE) (l : List St) : Prop :=
 ∀ (Q : Nat -> Prop) (w : World) (va : Value) (vs : List Value) (M : Mkr) (v : Value), MK base mb gm ng nl lm w M v -> M.E = E -> SliceV Q w va vs -> SAll Q w vs l -> (∀ b, Q b -> b < base /\ b ≠ mb) -> l.length <= 602 -> WhSts l -> M.words.length + (cSts E M.words.length l).length <= 1000000 ->
  Calls Tryz.prog 100 #[.pointer (some ⟨mb, 0, none⟩), va] w (MPost base mb gm ng nl lm (M.more ((cSts E M.words.length l).map Int.ofNat)) v w)
theorem Mv.newW {w1 : World} {v1 : Value} {M1 : Mkr} {A : Array Value} {t : TypeId} (h : MK base mb gm ng nl lm w1 M1 v1) {w2 w3 : World} {v2 v3 : Value} (hk : Mv mb v1 v2 (w1.alloc (.cells A t)) w2) (hk2 : Mv mb v2 v3 w2 w3) (o : Nat) : w3.cell? ⟨w1.heap.size, o, none⟩ = A[o]? :=
 Mv.new h (hk.trans hk2) o
theorem st_block {E : CE} {l : List St} (ih : SL base mb gm ng nl lm E l) : ST base mb gm ng nl lm E (.block l) := by
 intro Q w ve M v h hE hR hQ hW hbig
 cases hR with
 | block hS hl hA =>
 rename_i va vs
 rw [WhSt] at hW
 rw [cSt] at hbig ⊢
 have hlt := h.lt
 have k1 : ∀ A, Below w.heap.size w (w.alloc A) := fun A => (Below.refl _ _).alloc (Nat.le_refl _) _
 have hF := fun A => ih Q (w.alloc A) va vs M v (h.below (k1 A)) hE (hS.keep (keepA h hQ A)) ⟨hl, fun j x y h1 h2 => (hA j x y h1 h2).keep (keepA h hQ A)⟩ hQ hW.1 hW.2 hbig
 have hG := ih Q w va vs M v h hE hS ⟨hl, hA⟩ hQ hW.1 hW.2 hbig
 obtain ⟨sa, sc, rfl⟩ := hS.len
 unfold MPost at hF hG
 clear hbig hl hA hS
 generalize M.more ((cSts E M.words.length l).map Int.ofNat) = M9 at *
 go_enter Tryz.func132, Tryz.ntmps132
 go_wp2_with (go_at_call 100; first | (refine (hF _).mono ?_; rintro e w2 ⟨rfl, v2, hM2, hv2⟩; have hv3 : Mv mb v v2 w w2 := (Mv.of_below (k1 _)).trans hv2) | (refine hG.mono ?_; rintro e w2 ⟨rfl, v2, hM2, hv3⟩))
 go_end0
 exact ⟨rfl, v2, hM2, hv3⟩
theorem cst_write {E : CE} (x : Ex) : ST base mb gm ng nl lm E (.write x) := by
 intro Q w ve M v h hE hR hQ hW hbig
 cases hR with
 | write hx =>
 rename_i vx
 rw [WhSt] at hW
 have hcx := hx.cells
 have htx := run_store_one hx.one
 have hlt := h.lt
 have hl1 : (M.more [1]).words.length = M.words.length + 1 := by rw [more_len]; rfl
 have hcl : (cSt E M.words.length (.write x)).length = (cEx E (M.words.length + 1) x).length + 2 := by rw [cSt]; simp
 rw [hcl] at hbig
 have L1 := fun A => lay1n h A [1] 3 (by simpa using (by omega : M.words.length + 1 <= 1000000))
 have hX : ∀ W V, MK base mb gm ng nl lm W (M.more [1]) V -> Mv mb v V w W -> ∀ A, Calls Tryz.prog 155 #[.pointer (some ⟨mb, 0, none⟩), vx] (W.alloc A) (MPost base mb gm ng nl lm ((M.more [1]).more ((cEx E (M.words.length + 1) x).map Int.ofNat)) V (W.alloc A)) := fun W V hM hk A => by
  have := ex_any x Q (W.alloc A) vx (M.more [1]) V (hM.below ((Below.refl _ _).alloc (Nat.le_refl _) A)) hE ((hx.keep (hk.keepQ h hQ)).keep (keepA hM hQ A)) hQ (whEx_ok _ hW) (by rw [hl1]; omega)
  rw [hl1] at this
  exact this
 have hb2 : ((M.more [1]).more ((cEx E (M.words.length + 1) x).map Int.ofNat)).words.length + 1 <= 1000000 := by rw [more_len, hl1, List.length_map]; omega
 have e9 : ((M.more [1]).more ((cEx E (M.words.length + 1) x).map Int.ofNat)).more [28] = M.more ((cSt E M.words.length (.write x)).map Int.ofNat) := by
  rw [more_more, more_more, cSt]; simp
 have L2 := fun W V (hM : MK base mb gm ng nl lm W ((M.more [1]).more ((cEx E (M.words.length + 1) x).map Int.ofNat)) V) => lay0 hM [28] 3 (by simpa using hb2)
 rw [e9] at L2
 clear e9 hb2 hbig hcl hl1
 unfold MPost at hX
 generalize (M.more [1]).more ((cEx E (M.words.length + 1) x).map Int.ofNat) = M2 at *
 generalize M.more [1] = M1 at *
 generalize M.more ((cSt E M.words.length (.write x)).map Int.ofNat) = M9 at *
 go_enter Tryz.func132, Tryz.ntmps132
 go_wp2_with (first
  | (go_at_call 101; have _q := hM2; refine (L2 _ _ hM2).mono ?_; rintro e w3 ⟨rfl, v3, hM3, hv3⟩)
  | (go_at_call 155; refine (hX _ _ hM1 hv1 _).mono ?_; rintro e w2 ⟨rfl, v2, hM2, hv2⟩)
  | (go_at_call 101; refine (L1 _).mono ?_; rintro e w1 ⟨rfl, v1, hM1, hv1⟩; have hlt1 := hM1.lt))
 go_end0
 exact ⟨rfl, v3, hM3, hv1.trans ((Mv.of_below ((Below.refl _ _).alloc (Nat.le_refl _) _)).trans (hv2.trans hv3))⟩
theorem st_assign {E : CE} (n : ByteArray) (p : Nat) (x : Ex) : ST base mb gm ng nl lm E (.assign n p x) := by
 intro Q w ve M v h hE hR hQ hW hbig
 cases hR with
 | assign _ _ hx =>
 rename_i vx
 rw [WhSt] at hW
 have hcx := hx.cells
 have htx := run_store_one hx.one
 have hlt := h.lt
 have hn := nm_size hW.1
 have hsl : (E.set n).length = 2 := by unfold CE.set; split; rfl; split <;> rfl
 have hl1 : (M.more [1]).words.length = M.words.length + 1 := by rw [more_len]; rfl
 have hcl : (cSt E M.words.length (.assign n p x)).length = (cEx E (M.words.length + 1) x).length + 3 := by rw [cSt]; simp [hsl]
 rw [hcl] at hbig
 have L1 := fun A => lay1n h A [1] 3 (by simpa using (by omega : M.words.length + 1 <= 1000000))
 have hX : ∀ W V, MK base mb gm ng nl lm W (M.more [1]) V -> Mv mb v V w W -> ∀ A, Calls Tryz.prog 155 #[.pointer (some ⟨mb, 0, none⟩), vx] (W.alloc A) (MPost base mb gm ng nl lm ((M.more [1]).more ((cEx E (M.words.length + 1) x).map Int.ofNat)) V (W.alloc A)) := fun W V hM hk A => by
  have := ex_any x Q (W.alloc A) vx (M.more [1]) V (hM.below ((Below.refl _ _).alloc (Nat.le_refl _) A)) hE ((hx.keep (hk.keepQ h hQ)).keep (keepA hM hQ A)) hQ (whEx_ok _ hW.2) (by rw [hl1]; omega)
  rw [hl1] at this
  exact this
 have hb2 : ((M.more [1]).more ((cEx E (M.words.length + 1) x).map Int.ofNat)).words.length + 2 <= 1000000 := by rw [more_len, hl1, List.length_map]; omega
 have e9 : ((M.more [1]).more ((cEx E (M.words.length + 1) x).map Int.ofNat)).more ((E.set n).map Int.ofNat) = M.more ((cSt E M.words.length (.assign n p x)).map Int.ofNat) := by
  rw [more_more, more_more, cSt]; simp
 have L2 := fun W V (hM : MK base mb gm ng nl lm W ((M.more [1]).more ((cEx E (M.words.length + 1) x).map Int.ofNat)) V) => set_any hM hn p hb2
 rw [more_E, more_E, hE, e9] at L2
 clear e9 hb2 hbig hcl hl1
 unfold MPost at hX L2
 generalize (M.more [1]).more ((cEx E (M.words.length + 1) x).map Int.ofNat) = M2 at *
 generalize M.more [1] = M1 at *
 generalize M.more ((cSt E M.words.length (.assign n p x)).map Int.ofNat) = M9 at *
 go_enter Tryz.func132, Tryz.ntmps132
 go_wp2_with (first
  | (go_at_call 156; refine (L2 _ _ hM2).mono ?_; rintro e w3 ⟨rfl, v3, hM3, hv3⟩)
  | (go_at_call 155; refine (hX _ _ hM1 hv1 _).mono ?_; rintro e w2 ⟨rfl, v2, hM2, hv2⟩; obtain ⟨hc0, hc1, hc2⟩ := Mv.new3 hM1 hv2)
  | (go_at_call 101; refine (L1 _).mono ?_; rintro e w1 ⟨rfl, v1, hM1, hv1⟩; have hlt1 := hM1.lt))
 go_end0
 exact ⟨rfl, v3, hM3, hv1.trans ((Mv.of_below ((Below.refl _ _).alloc (Nat.le_refl _) _)).trans (hv2.trans hv3))⟩
theorem cst_read {E : CE} (n : ByteArray) (p : Nat) : ST base mb gm ng nl lm E (.read n p) := by
 intro Q w ve M v h hE hR hQ hW hbig
 cases hR with
 | read _ _ =>
 rw [WhSt] at hW
 have hlt := h.lt
 have hn := nm_size hW
 have hsl : (E.set n).length = 2 := by unfold CE.set; split; rfl; split <;> rfl
 have hl1 : (M.more [1]).words.length = M.words.length + 1 := by rw [more_len]; rfl
 have hl2 : ((M.more [1]).more [29]).words.length = M.words.length + 2 := by rw [more_len, hl1]; rfl
 have hcl : (cSt E M.words.length (.read n p)).length = 4 := by rw [cSt]; simp [hsl]
 rw [hcl] at hbig
 have L1 := fun A => lay1n h A [1] 3 (by simpa using (by omega : M.words.length + 1 <= 1000000))
 have L3 : ∀ W V, MK base mb gm ng nl lm W (M.more [1]) V -> ∀ A, Calls Tryz.prog 101 #[.pointer (some ⟨mb, 0, none⟩), .slice (some ⟨W.heap.size + 1, 0, none⟩) 1 1] ((W.alloc A).alloc (.cells #[.int .i64 29] 3)) fun e w' => e = .returned (.int .i64 (M.more [1]).words.length) /\ ∃ v', MK base mb gm ng nl lm w' ((M.more [1]).more [29]) v' /\ Mv mb V v' (W.alloc A) w' := fun W V hM A => by
  have := lay0 (hM.below ((Below.refl _ _).alloc (Nat.le_refl _) A)) [29] 3 (by rw [hl1]; simp; omega)
  simpa using this
 have e9 : ((M.more [1]).more [29]).more ((E.set n).map Int.ofNat) = M.more ((cSt E M.words.length (.read n p)).map Int.ofNat) := by
  rw [more_more, more_more, cSt]; simp
 have L2 := fun W V (hM : MK base mb gm ng nl lm W ((M.more [1]).more [29]) V) => set_any hM hn p (by rw [hl2]; omega)
 rw [more_E, more_E, hE, e9] at L2
 clear e9 hbig hcl hl1 hl2
 unfold MPost at L2
 generalize (M.more [1]).more [29] = M2 at *
 generalize M.more [1] = M1 at *
 generalize M.more ((cSt E M.words.length (.read n p)).map Int.ofNat) = M9 at *
 go_enter Tryz.func132, Tryz.ntmps132
 go_wp2_with (first
  | (go_at_call 156; refine (L2 _ _ hM2).mono ?_; rintro e w3 ⟨rfl, v3, hM3, hv3⟩)
  | (go_at_call 101; have _q := hM1; refine (L3 _ _ hM1 _).mono ?_; rintro e w2 ⟨rfl, v2, hM2, hv2⟩; have hc0 := Mv.new hM1 hv2 0; have hc1 := Mv.new hM1 hv2 1)
  | (go_at_call 101; refine (L1 _).mono ?_; rintro e w1 ⟨rfl, v1, hM1, hv1⟩; have hlt1 := hM1.lt))
 go_end0
 exact ⟨rfl, v3, hM3, hv1.trans ((Mv.of_below ((Below.refl _ _).alloc (Nat.le_refl _) _)).trans (hv2.trans hv3))⟩
theorem st_proc {E : CE} (n : ByteArray) (p : Nat) (args : List Ex) : ST base mb gm ng nl lm E (.proc n p args) := by
 intro Q w ve M v h hE hR hQ hW hbig
 cases hR with
 | proc _ _ hS hA =>
 rename_i va vs
 rw [WhSt] at hW
 have hlt := h.lt
 have hn := nm_size hW.1
 have hl1 : (M.more [1]).words.length = M.words.length + 1 := by rw [more_len]; rfl
 have hcl : (cSt E M.words.length (.proc n p args)).length = (callC E (M.words.length + 1) n args).length + 1 := by rw [cSt]; unfold callC; simp
 rw [hcl] at hbig
 have L1 := fun A => lay1n h A [1] 3 (by simpa using (by omega : M.words.length + 1 <= 1000000))
 have e9 : (M.more [1]).more ((callC E (M.words.length + 1) n args).map Int.ofNat) = M.more ((cSt E M.words.length (.proc n p args)).map Int.ofNat) := by
  rw [more_more, cSt]; unfold callC; simp
 have hX : ∀ W V, MK base mb gm ng nl lm W (M.more [1]) V -> Mv mb v V w W -> ∀ A, Calls Tryz.prog 158 #[.pointer (some ⟨mb, 0, none⟩), .agg #[.string n, .int .i64 p], va] (W.alloc A) (MPost base mb gm ng nl lm (M.more ((cSt E M.words.length (.proc n p args)).map Int.ofNat)) V (W.alloc A)) := fun W V hM hk A => by
  have kq : KeepQ Q w (W.alloc A) := (hk.trans (Mv.of_below ((Below.refl _ _).alloc (Nat.le_refl _) A))).keepQ h hQ
  have := mcall_any (exs_any args) p hn (hM.below ((Below.refl _ _).alloc (Nat.le_refl _) A)) hE (hS.keep kq) (hA.keep kq) hQ hW.2.1 (whExs_ok _ hW.2.2) (by rw [hl1]; omega)
  rw [hl1, e9] at this
  exact this
 obtain ⟨sa, sc, rfl⟩ := hS.len
 clear e9 hbig hcl hl1 hS hA
 unfold MPost at hX
 generalize M.more [1] = M1 at *
 generalize M.more ((cSt E M.words.length (.proc n p args)).map Int.ofNat) = M9 at *
 go_enter Tryz.func132, Tryz.ntmps132
 go_wp2_with (first
  | (go_at_call 158; refine (hX _ _ hM1 hv1 _).mono ?_; rintro e w3 ⟨rfl, v3, hM3, hv3⟩)
  | (go_at_call 101; refine (L1 _).mono ?_; rintro e w1 ⟨rfl, v1, hM1, hv1⟩; have hlt1 := hM1.lt))
 go_end0
 exact ⟨rfl, v3, hM3, hv1.trans ((Mv.of_below ((Below.refl _ _).alloc (Nat.le_refl _) _)).trans hv3)⟩
theorem st_put {E : CE} (n : ByteArray) (p : Nat) (i x : Ex) : ST base mb gm ng nl lm E (.put n p i x) := by
 intro Q w ve M v h hE hR hQ hW hbig
 cases hR with
 | put _ _ hi hx =>
 rename_i vi vx
 rw [WhSt] at hW
 have hci := hi.cells
 have hti := run_store_one hi.one
 have hcx := hx.cells
 have htx := run_store_one hx.one
 have hlt := h.lt
 have hn := nm_size hW.1
 have hl1 : (M.more [1]).words.length = M.words.length + 1 := by rw [more_len]; rfl
 have hfl : (findC E (M.words.length + 1) n i).length = (cEx E (M.words.length + 1) i).length + 3 := by unfold findC; simp
 have hl2 : ((M.more [1]).more ((findC E (M.words.length + 1) n i).map Int.ofNat)).words.length = M.words.length + 1 + (cEx E (M.words.length + 1) i).length + 3 := by rw [more_len, hl1, List.length_map, hfl]; omega
 have hcl : (cSt E M.words.length (.put n p i x)).length = (cEx E (M.words.length + 1) i).length + (cEx E (M.words.length + 1 + (cEx E (M.words.length + 1) i).length + 3) x).length + 5 := by rw [cSt]; simp; omega
 rw [hcl] at hbig
 have L1 := fun A => lay1n h A [1] 3 (by simpa using (by omega : M.words.length + 1 <= 1000000))
 have hF : ∀ W V, MK base mb gm ng nl lm W (M.more [1]) V -> Mv mb v V w W -> ∀ A, Calls Tryz.prog 157 #[.pointer (some ⟨mb, 0, none⟩), .agg #[.string n, .int .i64 p], vi] (W.alloc A) (MPost base mb gm ng nl lm ((M.more [1]).more ((findC E (M.words.length + 1) n i).map Int.ofNat)) V (W.alloc A)) := fun W V hM hk A => by
  have := cfind_any (ex_any i) p hn (hM.below ((Below.refl _ _).alloc (Nat.le_refl _) A)) hE ((hi.keep (hk.keepQ h hQ)).keep (keepA hM hQ A)) hQ (whEx_ok _ hW.2.1) (by rw [hl1, hfl]; omega)
  rw [hl1] at this
  exact this
 have hX : ∀ W V, MK base mb gm ng nl lm W ((M.more [1]).more ((findC E (M.words.length + 1) n i).map Int.ofNat)) V -> Mv mb v V w W -> Calls Tryz.prog 155 #[.pointer (some ⟨mb, 0, none⟩), vx] W (MPost base mb gm ng nl lm (((M.more [1]).more ((findC E (M.words.length + 1) n i).map Int.ofNat)).more ((cEx E (M.words.length + 1 + (cEx E (M.words.length + 1) i).length + 3) x).map Int.ofNat)) V W) := fun W V hM hk => by
  have := ex_any x Q W vx _ V hM hE (hx.keep (hk.keepQ h hQ)) hQ (whEx_ok _ hW.2.2) (by rw [hl2]; omega)
  rw [hl2] at this
  exact this
 have hb2 : (((M.more [1]).more ((findC E (M.words.length + 1) n i).map Int.ofNat)).more ((cEx E (M.words.length + 1 + (cEx E (M.words.length + 1) i).length + 3) x).map Int.ofNat)).words.length + 1 <= 1000000 := by rw [more_len, hl2, List.length_map]; omega
 have e9 : (((M.more [1]).more ((findC E (M.words.length + 1) n i).map Int.ofNat)).more ((cEx E (M.words.length + 1 + (cEx E (M.words.length + 1) i).length + 3) x).map Int.ofNat)).more [9] = M.more ((cSt E M.words.length (.put n p i x)).map Int.ofNat) := by
  rw [more_more, more_more, more_more, cSt]; unfold findC; simp
 have L2 := fun W V (hM : MK base mb gm ng nl lm W (((M.more [1]).more ((findC E (M.words.length + 1) n i).map Int.ofNat)).more ((cEx E (M.words.length + 1 + (cEx E (M.words.length + 1) i).length + 3) x).map Int.ofNat)) V) => lay0 hM [9] 3 (by simpa using hb2)
 rw [e9] at L2
 clear e9 hb2 hbig hcl hl1 hl2 hfl
 unfold MPost at hX hF
 generalize ((M.more [1]).more ((findC E (M.words.length + 1) n i).map Int.ofNat)).more ((cEx E (M.words.length + 1 + (cEx E (M.words.length + 1) i).length + 3) x).map Int.ofNat) = M3 at *
 generalize (M.more [1]).more ((findC E (M.words.length + 1) n i).map Int.ofNat) = M2 at *
 generalize M.more [1] = M1 at *
 generalize M.more ((cSt E M.words.length (.put n p i x)).map Int.ofNat) = M9 at *
 go_enter Tryz.func132, Tryz.ntmps132
 go_wp2_with (first
  | (go_at_call 101; have _q := hM3; refine (L2 _ _ hM3).mono ?_; rintro e w4 ⟨rfl, v4, hM4, hv4⟩)
  | (go_at_call 155; refine (hX _ _ hM2 hk2).mono ?_; rintro e w3 ⟨rfl, v3, hM3, hv3⟩)
  | (go_at_call 157; refine (hF _ _ hM1 hv1 _).mono ?_; rintro e w2 ⟨rfl, v2, hM2, hv2⟩; have hc3 := Mv.new hM1 hv2 3; have hk2 : Mv mb v v2 w w2 := hv1.trans ((Mv.of_below ((Below.refl _ _).alloc (Nat.le_refl _) _)).trans hv2))
  | (go_at_call 101; refine (L1 _).mono ?_; rintro e w1 ⟨rfl, v1, hM1, hv1⟩; have hlt1 := hM1.lt))
 go_end0
 exact ⟨rfl, v4, hM4, hk2.trans (hv3.trans hv4)⟩
end
end Go.Proofs.YtklobognaldjpaaGreat
