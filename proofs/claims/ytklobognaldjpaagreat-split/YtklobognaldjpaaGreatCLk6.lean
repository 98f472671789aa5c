/- The program's look at names: calls, lists of arguments. The program's look at names: every expression; statements. The program's look at names: every statement. -/
import Derived.Test.YtklobognaldjpaaGreatCLk3
set_option maxRecDepth 100000
set_option maxHeartbeats 2000000
namespace Go.Proofs.YtklobognaldjpaaGreat
open Go.RowKit
section
variable {lb gm ng nl : Nat} {lm : Option Nat} {w : World} {c : Nat × Nat} {L : PEnv} {E : Env} {Q : Nat -> Prop}
theorem lookExs_take (E : Env) : ∀ (l : List Ex) (j : Nat) (e : Ex), l[j]? = some e -> lookExs E (l.take (j + 1)) = (lookExs E (l.take j)).or (lookEx E e)
 | [], j, e, h => by simp at h
 | a :: l, 0, e, h => by simp at h; subst h; rw [List.take_succ_cons, List.take_zero, List.take_zero, lookExs, lookExs]; cases lookEx E a <;> rfl
 | a :: l, j + 1, e, h => by
  rw [List.take_succ_cons, List.take_succ_cons, lookExs, lookExs, lookExs_take E l j e (by simpa using h)]
  cases lookEx E a <;> rfl
theorem okExs_at : ∀ {l : List Ex} {j : Nat} {e : Ex}, OkExs l -> l[j]? = some e -> OkEx e
 | [], j, e, _, h => by simp at h
 | a :: l, 0, e, hl, h => by simp at h; subst h; rw [OkExs] at hl; exact hl.1
 | a :: l, j + 1, e, hl, h => by rw [OkExs] at hl; exact okExs_at hl.2 (by simpa using h)
theorem SliceV.at {Q : Nat -> Prop} {w : World} {v : Value} {vs : List Value} (h : SliceV Q w v vs) {j : Nat} (hj : j < vs.length) : ∃ b cap, v = .slice (some ⟨b, 0, none⟩) vs.length cap /\ Q b /\ b < w.heap.size /\ w.cell? ⟨b, j, none⟩ = some vs[j] := by
 rcases h with ⟨_, rfl⟩ | ⟨b, cap, hv, hn, hl, hc⟩
 ·simp at hj
 ·exact ⟨b, cap, hv, hn, hl, hc j _ (List.getElem?_eq_getElem hj)⟩
theorem SliceV.len {Q : Nat -> Prop} {w : World} {v : Value} {vs : List Value} (h : SliceV Q w v vs) : ∃ a cap, v = .slice a vs.length cap := by
 rcases h with ⟨rfl, rfl⟩ | ⟨b, cap, hv, _⟩
 ·exact ⟨none, 0, rfl⟩
 ·exact ⟨_, cap, hv⟩
def LC (lb gm ng nl : Nat) (lm : Option Nat) (L : PEnv) (E : Env) (args : List Ex) : Prop :=
 ∀ (Q : Nat -> Prop) (w : World) (va : Value) (vs : List Value) (n : ByteArray) (p k : Nat) (c : Nat × Nat), (k = 2 ∨ k = 3) -> PL lb gm ng nl lm w c L -> (c.1 = 0 -> Rep L E) -> SliceV Q w va vs -> RAll Q w vs args -> (∀ b, Q b -> b ≠ lb) -> NmOk n -> args.length <= 602 -> OkExs args ->
  Calls Tryz.prog 172 #[.pointer (some ⟨lb, 0, none⟩), .agg #[.string n, .int .i64 p], va, .int .i64 ((k + 1 : Nat) : Int)] w (PTell lb gm ng nl lm L (tellF ((callF E n p k args.length).or (lookExs E args)) c) w)
theorem lcall_any {args : List Ex} (ih : ∀ e ∈ args, LX lb gm ng nl lm L E e) : LC lb gm ng nl lm L E args := by
 intro Q w va vs n p k c hk h hr hS hA hQ hn0 hlen hO
 have hlt := h.lt
 have hf1 := symField1
 have hvl := hA.1
 have hn : n.size <= maxLen := by have := hn0.2; unfold maxLen; omega
 have k1 : ∀ A, Below w.heap.size w (w.alloc A) := fun A => (Below.refl _ _).alloc (Nat.le_refl _) _
 have hW : ∀ A, Calls Tryz.prog 171 #[.pointer (some ⟨lb, 0, none⟩), .agg #[.string n, .int .i64 p], .int .i64 ((k + 1 : Nat) : Int)] (w.alloc A) (PTell lb gm ng nl lm L (tellF (wantF E n p k) c) (w.alloc A)) := fun A => by
  rw [<- tell_want hr]; exact want_sym (h.below (k1 A)) hn p k
 have hF := fun w2 (hP : PL lb gm ng nl lm w2 (tellF (wantF E n p k) c) L) => find_sym hP hn p
 have HT := tell_call hr n p k args.length hk
 unfold symV at hF
 generalize (L.find n) = sf at *
 obtain ⟨sa, scap, rfl⟩ := hS.len
 generalize hc8 : tellF (wantF E n p k) c = c8 at *
 generalize hc7 : tellF (callF E n p k args.length) c = c7 at *
 have HC : Hid (tellF ((callF E n p k args.length).or (lookExs E args)) c = tellF (lookExs E args) c7) := by
  show _ = _; rw [<- tellF_or _ _ (nz_callF _ _ _ _ _), hc7]
 have hr7 : c7.1 = 0 -> Rep L E := by rw [<- hc7]; exact rep_tell' hr _
 clear hc7 hc8
 have HX : Hid (∀ (j : Nat) (hj : j < vs.length) (wr : World), PL lb gm ng nl lm wr (tellF (lookExs E (args.take j)) c7) L -> Par lb w wr ->
   Calls Tryz.prog 170 #[.pointer (some ⟨lb, 0, none⟩), vs[j]] wr (PTell lb gm ng nl lm L (tellF (lookExs E (args.take (j + 1))) c7) wr)) := by
  intro j hj wr hP hk
  have hja : j < args.length := by omega
  have he : args[j]? = some args[j] := List.getElem?_eq_getElem hja
  rw [lookExs_take E args j _ he, <- tellF_or _ _ (nz_lookExs _ _)]
  exact ih _ (List.getElem_mem hja) Q wr _ _ hP (rep_tell' hr7 _) ((hA.2 j _ _ (List.getElem?_eq_getElem hj) he).keep (keepLb hQ hk)) hQ (okExs_at hO he)
 have HS : Hid (SliceV Q w (.slice sa vs.length scap) vs) := hS
 generalize hc9 : tellF ((callF E n p k args.length).or (lookExs E args)) c = c9 at *
 clear hS hr hr7 hc9
 by_cases hz : sf.2 = args.length
 ·rw [if_pos hz, tellF_none] at HT
  subst HT
  have HT : True := trivial
  have hzb : ((sf.2 : Int) != (args.length : Int)) = false := by simp; omega
  clear hz
  go_enter Tryz.func172, Tryz.ntmps172
  go_wp2_with (first
   | (go_at_call 171; refine (hW _).mono ?_; rintro e w2 ⟨rfl, hP2, hk2⟩; have hc20 := parNew hlt hk2 0; have hc21 := parNew hlt hk2 1; have hk2' := (Par.of_below (k1 _)).trans hk2)
   | (go_at_call 192; refine (hF _ hP2).mono ?_; rintro e w3 ⟨rfl, hb3⟩))
  go_loopw [9, 29] (fun _ i wr => ∃ j : Nat, i = .int .i64 j /\ j <= args.length /\ PL lb gm ng nl lm wr (tellF (lookExs E (args.take j)) c8) L /\ Par lb w wr) (fun _ i _ => args.length - (intOf i).toNat)
  case atStart => exact ⟨0, rfl, Nat.zero_le _, by rw [List.take_zero, lookExs, tellF_none]; exact hP2.below hb3, hk2'.trans (Par.of_below hb3)⟩
  case round =>
   obtain ⟨j, rfl, hj, hP, hkw⟩ := hrel
   by_cases hlt2 : j < args.length
   ·have hjv : j < vs.length := by omega
    obtain ⟨b, cap, hv, hqb, hbl, hcell⟩ := HS.out.at hjv
    injection hv with hv1 hv2 hv3
    subst hv1 hv3
    clear hv2
    have hcw : wr.cell? ⟨b, j, none⟩ = some vs[j] := (parCell hkw hbl (hQ b hqb) j).trans hcell
    have hX := HX.out j hjv wr hP hkw
    clear hcell HX HS hP
    generalize vs[j] = vj at *
    go_wp2_with (go_at_call 170; refine hX.mono ?_; rintro e w5 ⟨rfl, hP5, hk5⟩)
    go_roundw
    case rel => exact ⟨j + 1, by go_num, by omega, hP5, hkw.trans hk5⟩
    case measure => simp [intOf]; omega
   ·have ej : j = args.length := by omega
    rw [ej, List.take_length] at hP
    subst ej
    go_wp2
    go_end0
    exact ⟨rfl, by rw [HC.out]; exact hP, hkw⟩
 ·rw [if_neg hz] at HT
  have hzb : ((sf.2 : Int) != (args.length : Int)) = true := by simp; omega
  clear hz
  go_enter Tryz.func172, Tryz.ntmps172
  go_wp2_with (first
   | (go_at_call 171; refine (hW _).mono ?_; rintro e w2 ⟨rfl, hP2, hk2⟩; have hc20 := parNew hlt hk2 0; have hc21 := parNew hlt hk2 1; have hk2' := (Par.of_below (k1 _)).trans hk2; have hne2 : w.heap.size < w2.heap.size := lt_of_cell (v := .int .i64 p) hc21)
   | (go_at_call 192; refine (hF _ hP2).mono ?_; rintro e w3 ⟨rfl, hb3⟩; have hP3 := hP2.below hb3; have hc31 := (hb3.cell (p := ⟨w.heap.size, 1, none⟩) hne2).trans hc21; have hl3 := hP3.lt))
  go_region_with (go_at_call 148; refine (ltell_any (hP3.below (Below.refl _ _).drew) 7 p).mono ?_; rintro e w4 ⟨rfl, hP4, hk4⟩)
  all_goals go_wp2
  all_goals rw [HT] at hP4
  go_loopw [9, 29] (fun _ i wr => ∃ j : Nat, i = .int .i64 j /\ j <= args.length /\ PL lb gm ng nl lm wr (tellF (lookExs E (args.take j)) c7) L /\ Par lb w wr) (fun _ i _ => args.length - (intOf i).toNat)
  case atStart => exact ⟨0, rfl, Nat.zero_le _, by rw [List.take_zero, lookExs, tellF_none]; exact hP4, ((hk2'.trans (Par.of_below hb3)).drewN 1).trans hk4⟩
  case round =>
   obtain ⟨j, rfl, hj, hP, hkw⟩ := hrel
   by_cases hlt2 : j < args.length
   ·have hjv : j < vs.length := by omega
    obtain ⟨b, cap, hv, hqb, hbl, hcell⟩ := HS.out.at hjv
    injection hv with hv1 hv2 hv3
    subst hv1 hv3
    clear hv2
    have hcw : wr.cell? ⟨b, j, none⟩ = some vs[j] := (parCell hkw hbl (hQ b hqb) j).trans hcell
    have hX := HX.out j hjv wr hP hkw
    clear hcell HX HS hP
    generalize vs[j] = vj at *
    go_wp2_with (go_at_call 170; refine hX.mono ?_; rintro e w5 ⟨rfl, hP5, hk5⟩)
    go_roundw
    case rel => exact ⟨j + 1, by go_num, by omega, hP5, hkw.trans hk5⟩
    case measure => simp [intOf]; omega
   ·have ej : j = args.length := by omega
    rw [ej, List.take_length] at hP
    subst ej
    go_wp2
    go_end0
    exact ⟨rfl, by rw [HC.out]; exact hP, hkw⟩
end
section
variable {lb gm ng nl : Nat} {lm : Option Nat} {w : World} {c : Nat × Nat} {L : PEnv} {E : Env} {Q : Nat -> Prop}
theorem lx_call (n : ByteArray) (p : Nat) {args : List Ex} (ih : ∀ e ∈ args, LX lb gm ng nl lm L E e) : LX lb gm ng nl lm L E (.call n p args) := by
 intro Q w v c h hr hR hQ hO
 cases hR with
 | call _ _ h1 h2 h3 =>
 rename_i va vs
 rw [OkEx] at hO
 have hlt := h.lt
 have hto := run_store_one (sliceV_one h1)
 have k1 : ∀ A, Below w.heap.size w (w.alloc A) := fun A => (Below.refl _ _).alloc (Nat.le_refl _) _
 have hW : ∀ A, Calls Tryz.prog 172 #[.pointer (some ⟨lb, 0, none⟩), .agg #[.string n, .int .i64 p], va, .int .i64 4] (w.alloc A) (PTell lb gm ng nl lm L (tellF (lookEx E (.call n p args)) c) (w.alloc A)) := fun A => by
  rw [lookEx]
  have kq := keepLb hQ (Par.of_below (pb := lb) (k1 A))
  exact lcall_any ih Q _ va vs n p 3 c (.inr rfl) (h.below (k1 A)) hr (h1.keep kq) ⟨h2, fun j v e hv he => (h3 j v e hv he).keep kq⟩ hQ hO.1 hO.2.1 hO.2.2
 obtain ⟨sa, scap, rfl⟩ := h1.len
 clear h1 h2 h3
 generalize tellF (lookEx E (.call n p args)) c = c9 at *
 go_enter Tryz.func170, Tryz.ntmps170
 go_wp2_with (go_at_call 172; refine (hW _).mono ?_; rintro e w2 ⟨rfl, hP2, hk2⟩)
 go_end0
 exact ⟨rfl, hP2, (Par.of_below (k1 _)).trans hk2⟩
mutual
theorem lx_any : ∀ e, LX lb gm ng nl lm L E e
 | .nil => lx_nil
 | .num x => lx_num x
 | .var n p => lx_var n p
 | .elem n p i => lx_elem n p (lx_any i)
 | .call n p args => lx_call n p (lxs_any args)
 | .bin op l r => lx_bin op (lx_any l) (lx_any r)
 | .un op e => lx_un op (lx_any e)
theorem lxs_any : ∀ (l : List Ex), ∀ e ∈ l, LX lb gm ng nl lm L E e
 | [] => fun e he => by simp at he
 | a :: l => fun e he => by
  have h0 := lx_any a
  have h1 := lxs_any l
  rcases List.mem_cons.1 he with h | h
  ·rw [h]; exact h0
  ·exact h1 e h
end
def LS (lb gm ng nl : Nat) (lm : Option Nat) (L : PEnv) (E : Env) (s : St) : Prop :=
 ∀ (Q : Nat -> Prop) (w : World) (v : Value) (c : Nat × Nat), PL lb gm ng nl lm w c L -> (c.1 = 0 -> Rep L E) -> RSt Q w v s -> (∀ b, Q b -> b ≠ lb) -> OkSt s ->
  Calls Tryz.prog 150 #[.pointer (some ⟨lb, 0, none⟩), v] w (PTell lb gm ng nl lm L (tellF (lookSt E s) c) w)
def LL (lb gm ng nl : Nat) (lm : Option Nat) (L : PEnv) (E : Env) (l : List St) : Prop :=
 ∀ (Q : Nat -> Prop) (w : World) (va : Value) (vs : List Value) (c : Nat × Nat), PL lb gm ng nl lm w c L -> (c.1 = 0 -> Rep L E) -> SliceV Q w va vs -> SAll Q w vs l -> (∀ b, Q b -> b ≠ lb) -> l.length <= 602 -> OkSts l ->
  Calls Tryz.prog 121 #[.pointer (some ⟨lb, 0, none⟩), va] w (PTell lb gm ng nl lm L (tellF (lookSts E l) c) w)
theorem lookSts_take (E : Env) : ∀ (l : List St) (j : Nat) (e : St), l[j]? = some e -> lookSts E (l.take (j + 1)) = (lookSts E (l.take j)).or (lookSt E e)
 | [], j, e, h => by simp at h
 | a :: l, 0, e, h => by simp at h; subst h; rw [List.take_succ_cons, List.take_zero, List.take_zero, lookSts, lookSts]; cases lookSt E a <;> rfl
 | a :: l, j + 1, e, h => by
  rw [List.take_succ_cons, List.take_succ_cons, lookSts, lookSts, lookSts_take E l j e (by simpa using h)]
  cases lookSt E a <;> rfl
theorem okSts_at : ∀ {l : List St} {j : Nat} {e : St}, OkSts l -> l[j]? = some e -> OkSt e
 | [], j, e, _, h => by simp at h
 | a :: l, 0, e, hl, h => by simp at h; subst h; rw [OkSts] at hl; exact hl.1
 | a :: l, j + 1, e, hl, h => by rw [OkSts] at hl; exact okSts_at hl.2 (by simpa using h)
theorem llist_any {l : List St} (ih : ∀ e ∈ l, LS lb gm ng nl lm L E e) : LL lb gm ng nl lm L E l := by
 intro Q w va vs c h hr hS hA hQ hlen hO
 have hlt := h.lt
 have hvl := hA.1
 obtain ⟨sa, scap, rfl⟩ := hS.len
 have HX : Hid (∀ (j : Nat) (hj : j < vs.length) (wr : World), PL lb gm ng nl lm wr (tellF (lookSts E (l.take j)) c) L -> Par lb w wr ->
   Calls Tryz.prog 150 #[.pointer (some ⟨lb, 0, none⟩), vs[j]] wr (PTell lb gm ng nl lm L (tellF (lookSts E (l.take (j + 1))) c) wr)) := by
  intro j hj wr hP hk
  have hja : j < l.length := by omega
  have he : l[j]? = some l[j] := List.getElem?_eq_getElem hja
  rw [lookSts_take E l j _ he, <- tellF_or _ _ (nz_lookSts _ _)]
  exact ih _ (List.getElem_mem hja) Q wr _ _ hP (rep_tell' hr _) ((hA.2 j _ _ (List.getElem?_eq_getElem hj) he).keep (keepLb hQ hk)) hQ (okSts_at hO he)
 have HS : Hid (SliceV Q w (.slice sa vs.length scap) vs) := hS
 clear hS hr
 rw [hvl]
 go_enter Tryz.func121, Tryz.ntmps121
 go_wp2
 go_loopw [5, 8] (fun _ i wr => ∃ j : Nat, i = .int .i64 j /\ j <= l.length /\ PL lb gm ng nl lm wr (tellF (lookSts E (l.take j)) c) L /\ Par lb w wr) (fun _ i _ => l.length - (intOf i).toNat)
 case atStart => exact ⟨0, rfl, Nat.zero_le _, by rw [List.take_zero, lookSts, tellF_none]; exact h, Par.refl _ _⟩
 case round =>
  obtain ⟨j, rfl, hj, hP, hkw⟩ := hrel
  by_cases hlt2 : j < l.length
  ·have hjv : j < vs.length := by omega
   obtain ⟨b, cap, hv, hqb, hbl, hcell⟩ := HS.out.at hjv
   injection hv with hv1 hv2 hv3
   subst hv1 hv3
   clear hv2
   have hcw : wr.cell? ⟨b, j, none⟩ = some vs[j] := (parCell hkw hbl (hQ b hqb) j).trans hcell
   have hX := HX.out j hjv wr hP hkw
   clear hcell HX HS hP
   generalize vs[j] = vj at *
   go_wp2_with (go_at_call 150; refine hX.mono ?_; rintro e w5 ⟨rfl, hP5, hk5⟩)
   go_roundw
   case rel => exact ⟨j + 1, by go_num, by omega, hP5, hkw.trans hk5⟩
   case measure => simp [intOf]; omega
  ·have ej : j = l.length := by omega
   rw [ej, List.take_length] at hP
   subst ej
   go_wp2
   go_end0
   exact ⟨rfl, hP, hkw⟩
end
section
variable {lb gm ng nl : Nat} {lm : Option Nat} {w : World} {c : Nat × Nat} {L : PEnv} {E : Env} {Q : Nat -> Prop}
theorem ls_nil : LS lb gm ng nl lm L E .nil := by
 intro Q w v c h hr hR hQ hO
 cases hR
 rw [lookSt, tellF_none]
 go_enter Tryz.func150, Tryz.ntmps150
 go_wp2
 go_end0
 exact ⟨rfl, h, Par.refl _ _⟩
theorem ls_assign (n : ByteArray) (p : Nat) (e : Ex) : LS lb gm ng nl lm L E (.assign n p e) := by
 intro Q w v c h hr hR hQ hO
 cases hR with
 | assign _ _ h1 =>
 rename_i ve
 have hlt := h.lt
 have k1 : ∀ A, Below w.heap.size w (w.alloc A) := fun A => (Below.refl _ _).alloc (Nat.le_refl _) _
 rw [OkSt] at hO
 have hc1 := h1.cells
 have ht1 := run_store_one h1.one
 have hn : n.size <= maxLen := by have := hO.1.2; unfold maxLen; omega
 have hW : ∀ A, Calls Tryz.prog 169 #[.pointer (some ⟨lb, 0, none⟩), .agg #[.string n, .int .i64 p]] (w.alloc A) (PTell lb gm ng nl lm L (tellF (assignF E n p) c) (w.alloc A)) := fun A => by
  rw [<- tell_target hr hO.1.1]; exact target_sym (h.below (k1 A)) hn p
 have hI : ∀ w2, PL lb gm ng nl lm w2 (tellF (assignF E n p) c) L -> Par lb w w2 -> Calls Tryz.prog 170 #[.pointer (some ⟨lb, 0, none⟩), ve] w2 (PTell lb gm ng nl lm L (tellF (lookSt E (.assign n p e)) c) w2) := fun w2 hP hk => by
  rw [lookSt, <- tellF_or _ _ (nz_assignF _ _ _)]
  exact lx_any e Q w2 ve _ hP (rep_tell' hr _) (h1.keep (keepLb hQ hk)) hQ hO.2
 generalize tellF (lookSt E (.assign n p e)) c = c9 at *
 generalize tellF (assignF E n p) c = c8 at *
 go_enter Tryz.func150, Tryz.ntmps150
 go_wp2_with (first
  | (go_at_call 169; refine (hW _).mono ?_; rintro e w2 ⟨rfl, hP2, hk2⟩; have hc2 := parNew hlt hk2 2; have hk2' := (Par.of_below (k1 _)).trans hk2)
  | (go_at_call 170; refine (hI _ hP2 hk2').mono ?_; rintro e w3 ⟨rfl, hP3, hk3⟩))
 go_end0
 exact ⟨rfl, hP3, hk2'.trans hk3⟩
theorem ls_put (n : ByteArray) (p : Nat) (i e : Ex) : LS lb gm ng nl lm L E (.put n p i e) := by
 intro Q w v c h hr hR hQ hO
 cases hR with
 | put _ _ h1 h2 =>
 rename_i vi ve
 have hlt := h.lt
 have k1 : ∀ A, Below w.heap.size w (w.alloc A) := fun A => (Below.refl _ _).alloc (Nat.le_refl _) _
 rw [OkSt] at hO
 have hc1 := h1.cells
 have ht1 := run_store_one h1.one
 have hc2 := h2.cells
 have ht2 := run_store_one h2.one
 have hn : n.size <= maxLen := by have := hO.1.2; unfold maxLen; omega
 have hW : ∀ A, Calls Tryz.prog 171 #[.pointer (some ⟨lb, 0, none⟩), .agg #[.string n, .int .i64 p], .int .i64 2] (w.alloc A) (PTell lb gm ng nl lm L (tellF (wantF E n p 1) c) (w.alloc A)) := fun A => by
  rw [<- tell_want hr]; exact want_sym (h.below (k1 A)) hn p 1
 have hI : ∀ w2, PL lb gm ng nl lm w2 (tellF (wantF E n p 1) c) L -> Par lb w w2 -> Calls Tryz.prog 170 #[.pointer (some ⟨lb, 0, none⟩), vi] w2 (PTell lb gm ng nl lm L (tellF ((wantF E n p 1).or (lookEx E i)) c) w2) := fun w2 hP hk => by
  rw [<- tellF_or _ _ (nz_wantF _ _ _ _)]
  exact lx_any i Q w2 vi _ hP (rep_tell' hr _) (h1.keep (keepLb hQ hk)) hQ hO.2.1
 have hJ : ∀ w2, PL lb gm ng nl lm w2 (tellF ((wantF E n p 1).or (lookEx E i)) c) L -> Par lb w w2 -> Calls Tryz.prog 170 #[.pointer (some ⟨lb, 0, none⟩), ve] w2 (PTell lb gm ng nl lm L (tellF (lookSt E (.put n p i e)) c) w2) := fun w2 hP hk => by
  rw [lookSt, <- tellF_or _ _ ((nz_wantF _ _ _ _).or (nz_lookEx _ _))]
  exact lx_any e Q w2 ve _ hP (rep_tell' hr _) (h2.keep (keepLb hQ hk)) hQ hO.2.2
 generalize tellF (lookSt E (.put n p i e)) c = c9 at *
 generalize tellF ((wantF E n p 1).or (lookEx E i)) c = c7 at *
 generalize tellF (wantF E n p 1) c = c8 at *
 go_enter Tryz.func150, Tryz.ntmps150
 go_wp2_with (first
  | (go_at_call 171; refine (hW _).mono ?_; rintro e w2 ⟨rfl, hP2, hk2⟩; have hc22 := parNew hlt hk2 2; have hc23 := parNew hlt hk2 3; have hk2' := (Par.of_below (k1 _)).trans hk2; have hl2 : w.heap.size < w2.heap.size := Nat.lt_of_lt_of_le (by simp) hk2.size)
  | (go_at_call 170; refine (hJ _ hP3 hk3').mono ?_; rintro e w4 ⟨rfl, hP4, hk4⟩)
  | (go_at_call 170; refine (hI _ hP2 hk2').mono ?_; rintro e w3 ⟨rfl, hP3, hk3⟩; have hc33 := (parCell hk3 hl2 (by omega) 3).trans hc23; have hk3' := hk2'.trans hk3))
 go_end0
 exact ⟨rfl, hP4, hk3'.trans hk4⟩
theorem ls_proc (n : ByteArray) (p : Nat) (args : List Ex) : LS lb gm ng nl lm L E (.proc n p args) := by
 intro Q w v c h hr hR hQ hO
 cases hR with
 | proc _ _ h1 h2 =>
 rename_i va vs
 have hlt := h.lt
 have k1 : ∀ A, Below w.heap.size w (w.alloc A) := fun A => (Below.refl _ _).alloc (Nat.le_refl _) _
 rw [OkSt] at hO
 have hto := run_store_one (sliceV_one h1)
 have hW : ∀ A, Calls Tryz.prog 172 #[.pointer (some ⟨lb, 0, none⟩), .agg #[.string n, .int .i64 p], va, .int .i64 3] (w.alloc A) (PTell lb gm ng nl lm L (tellF (lookSt E (.proc n p args)) c) (w.alloc A)) := fun A => by
  rw [lookSt]
  have kq := keepLb hQ (Par.of_below (pb := lb) (k1 A))
  exact lcall_any (lxs_any args) Q _ va vs n p 2 c (.inl rfl) (h.below (k1 A)) hr (h1.keep kq) (h2.keep kq) hQ hO.1 hO.2.1 hO.2.2
 obtain ⟨sa, scap, rfl⟩ := h1.len
 clear h1 h2
 generalize tellF (lookSt E (.proc n p args)) c = c9 at *
 go_enter Tryz.func150, Tryz.ntmps150
 go_wp2_with (go_at_call 172; refine (hW _).mono ?_; rintro e w2 ⟨rfl, hP2, hk2⟩)
 go_end0
 exact ⟨rfl, hP2, (Par.of_below (k1 _)).trans hk2⟩
theorem ls_ite (b : Ex) {t f : St} (iht : LS lb gm ng nl lm L E t) (ihf : LS lb gm ng nl lm L E f) : LS lb gm ng nl lm L E (.ite b t f) := by
 intro Q w v c h hr hR hQ hO
 cases hR with
 | ite h1 h2 h3 =>
 rename_i vc vt vf
 have hlt := h.lt
 have k1 : ∀ A, Below w.heap.size w (w.alloc A) := fun A => (Below.refl _ _).alloc (Nat.le_refl _) _
 rw [OkSt] at hO
 have hc1 := h1.cells
 have ht1 := run_store_one h1.one
 have hc2 := h2.cells
 have ht2 := run_store_one h2.one
 have hc3 := h3.cells
 have ht3 := run_store_one h3.one
 have hW : ∀ A, Calls Tryz.prog 170 #[.pointer (some ⟨lb, 0, none⟩), vc] (w.alloc A) (PTell lb gm ng nl lm L (tellF (lookEx E b) c) (w.alloc A)) := fun A =>
  lx_any b Q _ vc _ (h.below (k1 A)) hr (h1.keep (keepLb hQ (Par.of_below (k1 _)))) hQ hO.1
 have hI : ∀ w2, PL lb gm ng nl lm w2 (tellF (lookEx E b) c) L -> Par lb w w2 -> Calls Tryz.prog 150 #[.pointer (some ⟨lb, 0, none⟩), vt] w2 (PTell lb gm ng nl lm L (tellF ((lookEx E b).or (lookSt E t)) c) w2) := fun w2 hP hk => by
  rw [<- tellF_or _ _ (nz_lookEx _ _)]
  exact iht Q w2 vt _ hP (rep_tell' hr _) (h2.keep (keepLb hQ hk)) hQ hO.2.1
 have hJ : ∀ w2, PL lb gm ng nl lm w2 (tellF ((lookEx E b).or (lookSt E t)) c) L -> Par lb w w2 -> Calls Tryz.prog 150 #[.pointer (some ⟨lb, 0, none⟩), vf] w2 (PTell lb gm ng nl lm L (tellF (lookSt E (.ite b t f)) c) w2) := fun w2 hP hk => by
  rw [lookSt, <- tellF_or _ _ ((nz_lookEx _ _).or (nz_lookSt _ _))]
  exact ihf Q w2 vf _ hP (rep_tell' hr _) (h3.keep (keepLb hQ hk)) hQ hO.2.2
 generalize tellF (lookSt E (.ite b t f)) c = c9 at *
 generalize tellF ((lookEx E b).or (lookSt E t)) c = c7 at *
 generalize tellF (lookEx E b) c = c8 at *
 go_enter Tryz.func150, Tryz.ntmps150
 go_wp2_with (first
  | (go_at_call 170; refine (hW _).mono ?_; rintro e w2 ⟨rfl, hP2, hk2⟩; have hc21 := parNew hlt hk2 1; have hc22 := parNew hlt hk2 2; have hk2' := (Par.of_below (k1 _)).trans hk2; have hl2 : w.heap.size < w2.heap.size := Nat.lt_of_lt_of_le (by simp) hk2.size)
  | (go_at_call 150; refine (hJ _ hP3 hk3').mono ?_; rintro e w4 ⟨rfl, hP4, hk4⟩)
  | (go_at_call 150; refine (hI _ hP2 hk2').mono ?_; rintro e w3 ⟨rfl, hP3, hk3⟩; have hc32 := (parCell hk3 hl2 (by omega) 2).trans hc22; have hk3' := hk2'.trans hk3))
 go_end0
 exact ⟨rfl, hP4, hk3'.trans hk4⟩
theorem ls_loop (b : Ex) {t : St} (iht : LS lb gm ng nl lm L E t) : LS lb gm ng nl lm L E (.loop b t) := by
 intro Q w v c h hr hR hQ hO
 cases hR with
 | loop h1 h2 =>
 rename_i vc vt
 have hlt := h.lt
 have k1 : ∀ A, Below w.heap.size w (w.alloc A) := fun A => (Below.refl _ _).alloc (Nat.le_refl _) _
 rw [OkSt] at hO
 have hc1 := h1.cells
 have ht1 := run_store_one h1.one
 have hc2 := h2.cells
 have ht2 := run_store_one h2.one
 have hW : ∀ A, Calls Tryz.prog 170 #[.pointer (some ⟨lb, 0, none⟩), vc] (w.alloc A) (PTell lb gm ng nl lm L (tellF (lookEx E b) c) (w.alloc A)) := fun A =>
  lx_any b Q _ vc _ (h.below (k1 A)) hr (h1.keep (keepLb hQ (Par.of_below (k1 _)))) hQ hO.1
 have hI : ∀ w2, PL lb gm ng nl lm w2 (tellF (lookEx E b) c) L -> Par lb w w2 -> Calls Tryz.prog 150 #[.pointer (some ⟨lb, 0, none⟩), vt] w2 (PTell lb gm ng nl lm L (tellF (lookSt E (.loop b t)) c) w2) := fun w2 hP hk => by
  rw [lookSt, <- tellF_or _ _ (nz_lookEx _ _)]
  exact iht Q w2 vt _ hP (rep_tell' hr _) (h2.keep (keepLb hQ hk)) hQ hO.2
 generalize tellF (lookSt E (.loop b t)) c = c9 at *
 generalize tellF (lookEx E b) c = c8 at *
 go_enter Tryz.func150, Tryz.ntmps150
 go_wp2_with (first
  | (go_at_call 170; refine (hW _).mono ?_; rintro e w2 ⟨rfl, hP2, hk2⟩; have hc21 := parNew hlt hk2 1; have hk2' := (Par.of_below (k1 _)).trans hk2)
  | (go_at_call 150; refine (hI _ hP2 hk2').mono ?_; rintro e w3 ⟨rfl, hP3, hk3⟩))
 go_end0
 exact ⟨rfl, hP3, hk2'.trans hk3⟩
theorem ls_block {l : List St} (ih : ∀ e ∈ l, LS lb gm ng nl lm L E e) : LS lb gm ng nl lm L E (.block l) := by
 intro Q w v c h hr hR hQ hO
 cases hR with
 | block h1 h2 h3 =>
 rename_i va vs
 have hlt := h.lt
 have k1 : ∀ A, Below w.heap.size w (w.alloc A) := fun A => (Below.refl _ _).alloc (Nat.le_refl _) _
 rw [OkSt] at hO
 have hto := run_store_one (sliceV_one h1)
 have hW : ∀ A, Calls Tryz.prog 121 #[.pointer (some ⟨lb, 0, none⟩), va] (w.alloc A) (PTell lb gm ng nl lm L (tellF (lookSt E (.block l)) c) (w.alloc A)) := fun A => by
  rw [lookSt]
  have kq := keepLb hQ (Par.of_below (pb := lb) (k1 A))
  exact llist_any ih Q _ va vs c (h.below (k1 A)) hr (h1.keep kq) ⟨h2, fun j v e hv he => (h3 j v e hv he).keep kq⟩ hQ hO.1 hO.2
 obtain ⟨sa, scap, rfl⟩ := h1.len
 clear h1 h2 h3
 generalize tellF (lookSt E (.block l)) c = c9 at *
 go_enter Tryz.func150, Tryz.ntmps150
 go_wp2_with (go_at_call 121; refine (hW _).mono ?_; rintro e w2 ⟨rfl, hP2, hk2⟩)
 go_end0
 exact ⟨rfl, hP2, (Par.of_below (k1 _)).trans hk2⟩
theorem ls_write (e : Ex) : LS lb gm ng nl lm L E (.write e) := by
 intro Q w v c h hr hR hQ hO
 cases hR with
 | write h1 =>
 rename_i ve
 have hlt := h.lt
 have k1 : ∀ A, Below w.heap.size w (w.alloc A) := fun A => (Below.refl _ _).alloc (Nat.le_refl _) _
 rw [OkSt] at hO
 have hc1 := h1.cells
 have ht1 := run_store_one h1.one
 have hW : ∀ A, Calls Tryz.prog 170 #[.pointer (some ⟨lb, 0, none⟩), ve] (w.alloc A) (PTell lb gm ng nl lm L (tellF (lookSt E (.write e)) c) (w.alloc A)) := fun A => by
  rw [lookSt]; exact lx_any e Q _ ve _ (h.below (k1 A)) hr (h1.keep (keepLb hQ (Par.of_below (k1 _)))) hQ hO
 generalize tellF (lookSt E (.write e)) c = c9 at *
 go_enter Tryz.func150, Tryz.ntmps150
 go_wp2_with (go_at_call 170; refine (hW _).mono ?_; rintro e w2 ⟨rfl, hP2, hk2⟩)
 go_end0
 exact ⟨rfl, hP2, (Par.of_below (k1 _)).trans hk2⟩
theorem ls_read (n : ByteArray) (p : Nat) : LS lb gm ng nl lm L E (.read n p) := by
 intro Q w v c h hr hR hQ hO
 cases hR
 have hlt := h.lt
 have k1 : ∀ A, Below w.heap.size w (w.alloc A) := fun A => (Below.refl _ _).alloc (Nat.le_refl _) _
 rw [OkSt] at hO
 have hn : n.size <= maxLen := by have := hO.2; unfold maxLen; omega
 have hW : ∀ A, Calls Tryz.prog 171 #[.pointer (some ⟨lb, 0, none⟩), .agg #[.string n, .int .i64 p], .int .i64 1] (w.alloc A) (PTell lb gm ng nl lm L (tellF (lookSt E (.read n p)) c) (w.alloc A)) := fun A => by
  rw [lookSt, <- tell_want hr]; exact want_sym (h.below (k1 A)) hn p 0
 generalize tellF (lookSt E (.read n p)) c = c9 at *
 go_enter Tryz.func150, Tryz.ntmps150
 go_wp2_with (go_at_call 171; refine (hW _).mono ?_; rintro e w2 ⟨rfl, hP2, hk2⟩)
 go_end0
 exact ⟨rfl, hP2, (Par.of_below (k1 _)).trans hk2⟩
mutual
theorem ls_any : ∀ s, LS lb gm ng nl lm L E s
 | .nil => ls_nil
 | .assign n p e => ls_assign n p e
 | .put n p i e => ls_put n p i e
 | .proc n p args => ls_proc n p args
 | .ite b t f => ls_ite b (ls_any t) (ls_any f)
 | .loop b t => ls_loop b (ls_any t)
 | .block l => ls_block (lss_any l)
 | .write e => ls_write e
 | .read n p => ls_read n p
theorem lss_any : ∀ (l : List St), ∀ e ∈ l, LS lb gm ng nl lm L E e
 | [] => fun e he => by simp at he
 | a :: l => fun e he => by
  have h0 := ls_any a
  have h1 := lss_any l
  rcases List.mem_cons.1 he with h | h
  ·rw [h]; exact h0
  ·exact h1 e h
end
theorem ll_any (l : List St) : LL lb gm ng nl lm L E l := llist_any (lss_any l)
end
end Go.Proofs.YtklobognaldjpaaGreat
