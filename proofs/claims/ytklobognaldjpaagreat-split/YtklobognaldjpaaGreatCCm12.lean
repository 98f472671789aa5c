/- The maker of code: choices, loops, lists. The maker of code: a choice of two; lists; every statement. -/
import Derived.Test.YtklobognaldjpaaGreatCCm10
set_option maxRecDepth 1000000
set_option maxHeartbeats 2000000
namespace Go.Proofs.YtklobognaldjpaaGreat
open Go.RowKit
theorem cSts_take (E : CE) : ∀ (l : List St) (p j : Nat) (e : St), l[j]? = some e -> cSts E p (l.take (j + 1)) = cSts E p (l.take j) ++ cSt E (p + (cSts E p (l.take j)).length) e
 | [], p, j, e, h => by simp at h
 | a :: l, p, 0, e, h => by
  simp at h; subst h
  rw [List.take_succ_cons, List.take_zero, List.take_zero, cSts, cSts, cSts]
  simp
 | a :: l, p, j + 1, e, h => by
  rw [List.take_succ_cons, List.take_succ_cons, cSts, cSts, cSts_take E l _ j e (by simpa using h), List.append_assoc, List.length_append, Nat.add_assoc]
theorem cSts_take_le (E : CE) : ∀ (l : List St) (p j : Nat), (cSts E p (l.take j)).length <= (cSts E p l).length
 | [], p, j => by simp
 | a :: l, p, 0 => by rw [List.take_zero, cSts]; simp
 | a :: l, p, j + 1 => by
  rw [List.take_succ_cons, cSts, cSts, List.length_append, List.length_append]
  have := cSts_take_le E l (p + (cSt E p a).length) j
  omega
theorem whSts_at : ∀ {l : List St} {j : Nat} {e : St}, WhSts l -> l[j]? = some e -> WhSt e
 | [], j, e, _, h => by simp at h
 | a :: l, 0, e, hw, h => by rw [WhSts] at hw; simp at h; subst h; exact hw.1
 | a :: l, j + 1, e, hw, h => by rw [WhSts] at hw; exact whSts_at hw.2 (by simpa using h)
def iteC (E : CE) (p : Nat) (c : Ex) (t f : St) : List Nat :=
 if f.isNil then cEx E p c ++ [23, p + (cEx E p c).length + 2 + (cSt E (p + (cEx E p c).length + 2) t).length] ++ cSt E (p + (cEx E p c).length + 2) t
 else cEx E p c ++ [23, p + (cEx E p c).length + 2 + (cSt E (p + (cEx E p c).length + 2) t).length + 2] ++ cSt E (p + (cEx E p c).length + 2) t
  ++ [22, p + (cEx E p c).length + 2 + (cSt E (p + (cEx E p c).length + 2) t).length + 2 + (cSt E (p + (cEx E p c).length + 2 + (cSt E (p + (cEx E p c).length + 2) t).length + 2) f).length]
  ++ cSt E (p + (cEx E p c).length + 2 + (cSt E (p + (cEx E p c).length + 2) t).length + 2) f
def loopC (E : CE) (p u : Nat) (c : Ex) (b : St) : List Nat :=
 cEx E p c ++ [23, p + (cEx E p c).length + 2 + (cSt E (p + (cEx E p c).length + 2) b).length + 2] ++ cSt E (p + (cEx E p c).length + 2) b ++ [22, u]
section
variable {base mb gm ng nl : Nat} {lm : Option Nat} {w w' : World} {M : Mkr} {v v' : Value}
theorem told_more2 (M : Mkr) (a : List Int) (x : Int) (b : List Int) (k : Nat) : (((M.more a).more [x, -1]).more b).told ((M.more a).words.length + 1) k = M.more (a ++ [x, (k : Int)] ++ b) := by
 have := told_more (M.more a) x b k
 rw [more_more, this, more_more]; simp
theorem aimT (h : MK base mb gm ng nl lm w M v) {jump : Nat} (hj : jump + 1 < M.words.length) (hbig : M.words.length <= 1000000) :
  Calls Tryz.prog 184 #[.pointer (some ⟨mb, 0, none⟩), .int .i64 jump] w fun e w' => e = .returned (.tuple #[]) /\ MK base mb gm ng nl lm w' (M.told (jump + 1) M.words.length) v /\ Mv mb v v w w' := aim_any h hj hbig
theorem loop_any {E : CE} {c : Ex} {b : St} (ih : ST base mb gm ng nl lm E b) {Q : Nat -> Prop} {vc vb : Value} (u : Nat) (h : MK base mb gm ng nl lm w M v) (hE : M.E = E) (hc : REx Q w vc c) (hb : RSt Q w vb b) (hQ : ∀ b, Q b -> b < base /\ b ≠ mb) (hOc : WhEx c) (hOb : WhSt b)
  (hbig : M.words.length + (loopC E M.words.length u c b).length <= 1000000) :
  Calls Tryz.prog 160 #[.pointer (some ⟨mb, 0, none⟩), .agg #[vc, vb], .int .i64 u] w (MPost base mb gm ng nl lm (M.more ((loopC E M.words.length u c b).map Int.ofNat)) v w) := by
 have hcc := hc.cells
 have hcb := hb.cells
 have hsc := run_store_one hc.one
 have hsb := run_store_one hb.one
 have hlt := h.lt
 have hlen : (loopC E M.words.length u c b).length = (cEx E M.words.length c).length + (cSt E (M.words.length + (cEx E M.words.length c).length + 2) b).length + 4 := by unfold loopC; simp; omega
 rw [hlen] at hbig
 have k1 : ∀ A, Below w.heap.size w (w.alloc A) := fun A => (Below.refl _ _).alloc (Nat.le_refl _) _
 have hX := fun A => ex_any c Q (w.alloc A) vc M v (h.below (k1 A)) hE (hc.keep (keepA h hQ A)) hQ (whEx_ok _ hOc) (by omega)
 have hm1 : (M.more ((cEx E M.words.length c).map Int.ofNat)).words.length = M.words.length + (cEx E M.words.length c).length := by rw [more_len, List.length_map]
 have hm2 : ((M.more ((cEx E M.words.length c).map Int.ofNat)).more [23, -1]).words.length = M.words.length + (cEx E M.words.length c).length + 2 := by rw [more_len, hm1]; rfl
 have L1 := fun W V (hM : MK base mb gm ng nl lm W (M.more ((cEx E M.words.length c).map Int.ofNat)) V) => lay0 hM [23, -1] 3 (by rw [hm1]; simp; omega)
 have hS : ∀ W V, MK base mb gm ng nl lm W ((M.more ((cEx E M.words.length c).map Int.ofNat)).more [23, -1]) V -> ∀ A, Mv mb v V (w.alloc A) W -> Calls Tryz.prog 132 #[.pointer (some ⟨mb, 0, none⟩), vb] W (MPost base mb gm ng nl lm (((M.more ((cEx E M.words.length c).map Int.ofNat)).more [23, -1]).more ((cSt E (M.words.length + (cEx E M.words.length c).length + 2) b).map Int.ofNat)) V W) := fun W V hM A hk => by
  have := ih Q W vb _ V hM hE (hb.keep (((Mv.of_below (mb := mb) (v := v) (k1 A)).trans hk).keepQ h hQ)) hQ hOb (by rw [hm2]; omega)
  rw [hm2] at this
  exact this
 have e9 : ((((M.more ((cEx E M.words.length c).map Int.ofNat)).more [23, -1]).more ((cSt E (M.words.length + (cEx E M.words.length c).length + 2) b).map Int.ofNat)).more [22, (u : Int)]).told ((M.more ((cEx E M.words.length c).map Int.ofNat)).words.length + 1) ((((M.more ((cEx E M.words.length c).map Int.ofNat)).more [23, -1]).more ((cSt E (M.words.length + (cEx E M.words.length c).length + 2) b).map Int.ofNat)).more [22, (u : Int)]).words.length = M.more ((loopC E M.words.length u c b).map Int.ofNat) := by
  have e1 : (((M.more ((cEx E M.words.length c).map Int.ofNat)).more [23, -1]).more ((cSt E (M.words.length + (cEx E M.words.length c).length + 2) b).map Int.ofNat)).more [22, (u : Int)] = ((M.more ((cEx E M.words.length c).map Int.ofNat)).more [23, -1]).more ((cSt E (M.words.length + (cEx E M.words.length c).length + 2) b).map Int.ofNat ++ [22, (u : Int)]) := by rw [more_more]
  rw [e1, told_more2]
  congr 1
  unfold loopC
  simp [more_len]
  omega
 have hm3 : (((M.more ((cEx E M.words.length c).map Int.ofNat)).more [23, -1]).more ((cSt E (M.words.length + (cEx E M.words.length c).length + 2) b).map Int.ofNat)).words.length = M.words.length + (cEx E M.words.length c).length + 2 + (cSt E (M.words.length + (cEx E M.words.length c).length + 2) b).length := by rw [more_len, hm2, List.length_map]
 have L2 := fun W V (hM : MK base mb gm ng nl lm W (((M.more ((cEx E M.words.length c).map Int.ofNat)).more [23, -1]).more ((cSt E (M.words.length + (cEx E M.words.length c).length + 2) b).map Int.ofNat)) V) => lay0 hM [22, (u : Int)] 3 (by rw [hm3]; simp; omega)
 have A1 := fun W V (hM : MK base mb gm ng nl lm W ((((M.more ((cEx E M.words.length c).map Int.ofNat)).more [23, -1]).more ((cSt E (M.words.length + (cEx E M.words.length c).length + 2) b).map Int.ofNat)).more [22, (u : Int)]) V) => aimT hM (jump := (M.more ((cEx E M.words.length c).map Int.ofNat)).words.length) (by rw [hm1, more_len, hm3]; simp; omega) (by rw [more_len, hm3]; simp; omega)
 rw [e9] at A1
 clear e9 hm1 hm2 hm3 hbig hlen
 unfold MPost at hX hS
 generalize M.more ((loopC E M.words.length u c b).map Int.ofNat) = M9 at *
 generalize (((M.more ((cEx E M.words.length c).map Int.ofNat)).more [23, -1]).more ((cSt E (M.words.length + (cEx E M.words.length c).length + 2) b).map Int.ofNat)).more [22, (u : Int)] = M4 at *
 generalize ((M.more ((cEx E M.words.length c).map Int.ofNat)).more [23, -1]).more ((cSt E (M.words.length + (cEx E M.words.length c).length + 2) b).map Int.ofNat) = M3 at *
 generalize (M.more ((cEx E M.words.length c).map Int.ofNat)).more [23, -1] = M2 at *
 generalize M.more ((cEx E M.words.length c).map Int.ofNat) = M1 at *
 go_enter Tryz.func160, Tryz.ntmps160
 go_wp2_with (first
  | (go_at_call 184; refine (A1 _ _ hM4).mono ?_; rintro e w5 ⟨rfl, hM5, hv5⟩)
  | (go_at_call 101; have _q := hM3; refine (L2 _ _ hM3).mono ?_; rintro e w4 ⟨rfl, v4, hM4, hv4⟩)
  | (go_at_call 132; refine (hS _ _ hM2 _ (hv1.trans hv2)).mono ?_; rintro e w3 ⟨rfl, v3, hM3, hv3⟩)
  | (go_at_call 101; refine (L1 _ _ hM1).mono ?_; rintro e w2 ⟨rfl, v2, hM2, hv2⟩; have hc1 := Mv.newW h hv1 hv2 1)
  | (go_at_call 155; refine (hX _).mono ?_; rintro e w1 ⟨rfl, v1, hM1, hv1⟩; have hc0 := Mv.new h hv1 1))
 go_end0
 exact ⟨rfl, v4, hM5, (Mv.of_below (k1 _)).trans (hv1.trans (hv2.trans (hv3.trans (hv4.trans hv5))))⟩
theorem st_loop {E : CE} {c : Ex} {b : St} (ih : ST base mb gm ng nl lm E b) : ST base mb gm ng nl lm E (.loop c b) := by
 intro Q w ve M v h hE hR hQ hW hbig
 cases hR with
 | loop hc hb =>
 rename_i vc vb
 rw [WhSt] at hW
 have hcc := hc.cells
 have hcb := hb.cells
 have hsc := run_store_one hc.one
 have hsb := run_store_one hb.one
 have hlt := h.lt
 have hl1 : (M.more [1]).words.length = M.words.length + 1 := by rw [more_len]; rfl
 have hcl : (cSt E M.words.length (.loop c b)).length = (loopC E (M.words.length + 1) M.words.length c b).length + 1 := by rw [cSt]; unfold loopC; simp
 rw [hcl] at hbig
 have L1 := fun A => lay1n h A [1] 3 (by simpa using (by omega : M.words.length + 1 <= 1000000))
 have e9 : (M.more [1]).more ((loopC E (M.words.length + 1) M.words.length c b).map Int.ofNat) = M.more ((cSt E M.words.length (.loop c b)).map Int.ofNat) := by
  rw [more_more, cSt]; unfold loopC; simp
 have hX : ∀ W V, MK base mb gm ng nl lm W (M.more [1]) V -> Mv mb v V w W -> ∀ A, Calls Tryz.prog 160 #[.pointer (some ⟨mb, 0, none⟩), .agg #[vc, vb], .int .i64 M.words.length] (W.alloc A) (MPost base mb gm ng nl lm (M.more ((cSt E M.words.length (.loop c b)).map Int.ofNat)) V (W.alloc A)) := fun W V hM hk A => by
  have kq : KeepQ Q w (W.alloc A) := (hk.trans (Mv.of_below ((Below.refl _ _).alloc (Nat.le_refl _) A))).keepQ h hQ
  have := loop_any ih M.words.length (hM.below ((Below.refl _ _).alloc (Nat.le_refl _) A)) hE (hc.keep kq) (hb.keep kq) hQ hW.1 hW.2 (by rw [hl1]; omega)
  rw [hl1, e9] at this
  exact this
 clear e9 hbig hcl hl1
 unfold MPost at hX
 generalize M.more [1] = M1 at *
 generalize M.more ((cSt E M.words.length (.loop c b)).map Int.ofNat) = M9 at *
 go_enter Tryz.func132, Tryz.ntmps132
 go_wp2_with (first
  | (go_at_call 160; refine (hX _ _ hM1 hv1 _).mono ?_; rintro e w3 ⟨rfl, v3, hM3, hv3⟩)
  | (go_at_call 101; refine (L1 _).mono ?_; rintro e w1 ⟨rfl, v1, hM1, hv1⟩; have hlt1 := hM1.lt))
 go_end0
 exact ⟨rfl, v3, hM3, hv1.trans ((Mv.of_below ((Below.refl _ _).alloc (Nat.le_refl _) _)).trans hv3)⟩
theorem choice_nil {E : CE} {c : Ex} {t : St} (ih : ST base mb gm ng nl lm E t) {Q : Nat -> Prop} {vc vt : Value} (h : MK base mb gm ng nl lm w M v) (hE : M.E = E) (hc : REx Q w vc c) (hb : RSt Q w vt t) (hQ : ∀ b, Q b -> b < base /\ b ≠ mb) (hOc : WhEx c) (hOb : WhSt t)
  (hbig : M.words.length + (iteC E M.words.length c t .nil).length <= 1000000) :
  Calls Tryz.prog 159 #[.pointer (some ⟨mb, 0, none⟩), .agg #[vc, vt, .nilIface]] w (MPost base mb gm ng nl lm (M.more ((iteC E M.words.length c t .nil).map Int.ofNat)) v w) := by
 have hcc := hc.cells
 have hcb := hb.cells
 have hsc := run_store_one hc.one
 have hsb := run_store_one hb.one
 have hlt := h.lt
 have hlen : (iteC E M.words.length c t .nil).length = (cEx E M.words.length c).length + (cSt E (M.words.length + (cEx E M.words.length c).length + 2) t).length + 2 := by unfold iteC; rw [if_pos (by rfl)]; simp; omega
 rw [hlen] at hbig
 have k1 : ∀ A, Below w.heap.size w (w.alloc A) := fun A => (Below.refl _ _).alloc (Nat.le_refl _) _
 have hX := fun A => ex_any c Q (w.alloc A) vc M v (h.below (k1 A)) hE (hc.keep (keepA h hQ A)) hQ (whEx_ok _ hOc) (by omega)
 have hm1 : (M.more ((cEx E M.words.length c).map Int.ofNat)).words.length = M.words.length + (cEx E M.words.length c).length := by rw [more_len, List.length_map]
 have hm2 : ((M.more ((cEx E M.words.length c).map Int.ofNat)).more [23, -1]).words.length = M.words.length + (cEx E M.words.length c).length + 2 := by rw [more_len, hm1]; rfl
 have L1 := fun W V (hM : MK base mb gm ng nl lm W (M.more ((cEx E M.words.length c).map Int.ofNat)) V) => lay0 hM [23, -1] 3 (by rw [hm1]; simp; omega)
 have hS : ∀ W V, MK base mb gm ng nl lm W ((M.more ((cEx E M.words.length c).map Int.ofNat)).more [23, -1]) V -> ∀ A, Mv mb v V (w.alloc A) W -> Calls Tryz.prog 132 #[.pointer (some ⟨mb, 0, none⟩), vt] W (MPost base mb gm ng nl lm (((M.more ((cEx E M.words.length c).map Int.ofNat)).more [23, -1]).more ((cSt E (M.words.length + (cEx E M.words.length c).length + 2) t).map Int.ofNat)) V W) := fun W V hM A hk => by
  have := ih Q W vt _ V hM hE (hb.keep (((Mv.of_below (mb := mb) (v := v) (k1 A)).trans hk).keepQ h hQ)) hQ hOb (by rw [hm2]; omega)
  rw [hm2] at this
  exact this
 have hm3 : (((M.more ((cEx E M.words.length c).map Int.ofNat)).more [23, -1]).more ((cSt E (M.words.length + (cEx E M.words.length c).length + 2) t).map Int.ofNat)).words.length = M.words.length + (cEx E M.words.length c).length + 2 + (cSt E (M.words.length + (cEx E M.words.length c).length + 2) t).length := by rw [more_len, hm2, List.length_map]
 have e9 : (((M.more ((cEx E M.words.length c).map Int.ofNat)).more [23, -1]).more ((cSt E (M.words.length + (cEx E M.words.length c).length + 2) t).map Int.ofNat)).told ((M.more ((cEx E M.words.length c).map Int.ofNat)).words.length + 1) (((M.more ((cEx E M.words.length c).map Int.ofNat)).more [23, -1]).more ((cSt E (M.words.length + (cEx E M.words.length c).length + 2) t).map Int.ofNat)).words.length = M.more ((iteC E M.words.length c t .nil).map Int.ofNat) := by
  rw [told_more2, hm3]
  congr 1
  unfold iteC; rw [if_pos (by rfl)]
  simp
 have A1 := fun W V (hM : MK base mb gm ng nl lm W (((M.more ((cEx E M.words.length c).map Int.ofNat)).more [23, -1]).more ((cSt E (M.words.length + (cEx E M.words.length c).length + 2) t).map Int.ofNat)) V) => aimT hM (jump := (M.more ((cEx E M.words.length c).map Int.ofNat)).words.length) (by rw [hm3, hm1]; omega) (by rw [hm3]; omega)
 rw [e9] at A1
 clear e9 hm1 hm2 hm3 hbig hlen
 unfold MPost at hX hS
 generalize M.more ((iteC E M.words.length c t .nil).map Int.ofNat) = M9 at *
 generalize ((M.more ((cEx E M.words.length c).map Int.ofNat)).more [23, -1]).more ((cSt E (M.words.length + (cEx E M.words.length c).length + 2) t).map Int.ofNat) = M3 at *
 generalize (M.more ((cEx E M.words.length c).map Int.ofNat)).more [23, -1] = M2 at *
 generalize M.more ((cEx E M.words.length c).map Int.ofNat) = M1 at *
 go_enter Tryz.func159, Tryz.ntmps159
 go_wp2_with (first
  | (go_at_call 184; refine (A1 _ _ hM3).mono ?_; rintro e w5 ⟨rfl, hM5, hv5⟩)
  | (go_at_call 132; refine (hS _ _ hM2 _ (hv1.trans hv2)).mono ?_; rintro e w3 ⟨rfl, v3, hM3, hv3⟩; have hd2 := Mv.new h (hv1.trans (hv2.trans hv3)) 2)
  | (go_at_call 101; refine (L1 _ _ hM1).mono ?_; rintro e w2 ⟨rfl, v2, hM2, hv2⟩; have hc1 := Mv.newW h hv1 hv2 1)
  | (go_at_call 155; refine (hX _).mono ?_; rintro e w1 ⟨rfl, v1, hM1, hv1⟩))
 go_end0
 exact ⟨rfl, v3, hM5, (Mv.of_below (k1 _)).trans (hv1.trans (hv2.trans (hv3.trans hv5)))⟩
end
section
variable {base mb gm ng nl : Nat} {lm : Option Nat} {w w' : World} {M : Mkr} {v v' : Value}
theorem ite_words (M : Mkr) (a T F : List Int) (k1 k2 : Nat) :
  ((((((M.more a).more [23, -1]).more T).more [22, -1]).told ((M.more a).words.length + 1) k1).more F).told ((((M.more a).more [23, -1]).more T).words.length + 1) k2 = M.more (a ++ [23, (k1 : Int)] ++ T ++ [22, (k2 : Int)] ++ F) := by
 have e1 : (((M.more a).more [23, -1]).more T).more [22, -1] = ((M.more a).more [23, -1]).more (T ++ [22, -1]) := by rw [more_more]
 rw [e1, told_more2]
 have e2 : M.more (a ++ [23, (k1 : Int)] ++ (T ++ [22, -1])) = (M.more (a ++ [23, (k1 : Int)] ++ T)).more [22, -1] := by rw [more_more]; simp
 have e3 : (((M.more a).more [23, -1]).more T).words.length = (M.more (a ++ [23, (k1 : Int)] ++ T)).words.length := by simp [more_len]; omega
 rw [e2, e3, told_more2]
theorem choice_two {E : CE} {c : Ex} {t f : St} (iht : ST base mb gm ng nl lm E t) (ihf : ST base mb gm ng nl lm E f) {Q : Nat -> Prop} {vc vt : Value} {tf : TypeId} {xf : Value} (h : MK base mb gm ng nl lm w M v) (hE : M.E = E) (hc : REx Q w vc c) (hb : RSt Q w vt t) (hf : RSt Q w (.iface tf xf) f) (hQ : ∀ b, Q b -> b < base /\ b ≠ mb) (hOc : WhEx c) (hOb : WhSt t) (hOf : WhSt f) (hfn : f.isNil = false)
  (hbig : M.words.length + (iteC E M.words.length c t f).length <= 1000000) :
  Calls Tryz.prog 159 #[.pointer (some ⟨mb, 0, none⟩), .agg #[vc, vt, .iface tf xf]] w (MPost base mb gm ng nl lm (M.more ((iteC E M.words.length c t f).map Int.ofNat)) v w) := by
 have hcc := hc.cells
 have hcb := hb.cells
 have hsc := run_store_one hc.one
 have hsb := run_store_one hb.one
 have hlt := h.lt
 have hite : iteC E M.words.length c t f = cEx E M.words.length c ++ [23, M.words.length + (cEx E M.words.length c).length + 2 + (cSt E (M.words.length + (cEx E M.words.length c).length + 2) t).length + 2] ++ cSt E (M.words.length + (cEx E M.words.length c).length + 2) t
  ++ [22, M.words.length + (cEx E M.words.length c).length + 2 + (cSt E (M.words.length + (cEx E M.words.length c).length + 2) t).length + 2 + (cSt E (M.words.length + (cEx E M.words.length c).length + 2 + (cSt E (M.words.length + (cEx E M.words.length c).length + 2) t).length + 2) f).length]
  ++ cSt E (M.words.length + (cEx E M.words.length c).length + 2 + (cSt E (M.words.length + (cEx E M.words.length c).length + 2) t).length + 2) f := by
  unfold iteC; rw [if_neg (by rw [hfn]; simp)]
 have k1 : ∀ A, Below w.heap.size w (w.alloc A) := fun A => (Below.refl _ _).alloc (Nat.le_refl _) _
 have hm1 : (M.more ((cEx E M.words.length c).map Int.ofNat)).words.length = M.words.length + (cEx E M.words.length c).length := by rw [more_len, List.length_map]
 have hX := fun A => ex_any c Q (w.alloc A) vc M v (h.below (k1 A)) hE (hc.keep (keepA h hQ A)) hQ (whEx_ok _ hOc) (by rw [hite] at hbig; simp at hbig; omega)
 generalize hcw : cEx E M.words.length c = cw at *
 have hm2 : ((M.more (cw.map Int.ofNat)).more [23, -1]).words.length = M.words.length + cw.length + 2 := by rw [more_len, hm1]; rfl
 have hS : ∀ W V, MK base mb gm ng nl lm W ((M.more (cw.map Int.ofNat)).more [23, -1]) V -> ∀ A, Mv mb v V (w.alloc A) W -> Calls Tryz.prog 132 #[.pointer (some ⟨mb, 0, none⟩), vt] W (MPost base mb gm ng nl lm (((M.more (cw.map Int.ofNat)).more [23, -1]).more ((cSt E (M.words.length + cw.length + 2) t).map Int.ofNat)) V W) := fun W V hM A hk => by
  have := iht Q W vt _ V hM hE (hb.keep (((Mv.of_below (mb := mb) (v := v) (k1 A)).trans hk).keepQ h hQ)) hQ hOb (by rw [hm2]; rw [hite] at hbig; simp at hbig; omega)
  rw [hm2] at this
  exact this
 generalize htw : cSt E (M.words.length + cw.length + 2) t = tw at *
 have hm3 : (((M.more (cw.map Int.ofNat)).more [23, -1]).more (tw.map Int.ofNat)).words.length = M.words.length + cw.length + 2 + tw.length := by rw [more_len, hm2, List.length_map]
 have hm4 : ((((M.more (cw.map Int.ofNat)).more [23, -1]).more (tw.map Int.ofNat)).more [22, -1]).words.length = M.words.length + cw.length + 2 + tw.length + 2 := by rw [more_len, hm3]; rfl
 have hm5 : (((((M.more (cw.map Int.ofNat)).more [23, -1]).more (tw.map Int.ofNat)).more [22, -1]).told ((M.more (cw.map Int.ofNat)).words.length + 1) ((((M.more (cw.map Int.ofNat)).more [23, -1]).more (tw.map Int.ofNat)).more [22, -1]).words.length).words.length = M.words.length + cw.length + 2 + tw.length + 2 := by rw [told_len, hm4]
 have hS2 : ∀ W V, MK base mb gm ng nl lm W (((((M.more (cw.map Int.ofNat)).more [23, -1]).more (tw.map Int.ofNat)).more [22, -1]).told ((M.more (cw.map Int.ofNat)).words.length + 1) ((((M.more (cw.map Int.ofNat)).more [23, -1]).more (tw.map Int.ofNat)).more [22, -1]).words.length) V -> ∀ A, Mv mb v V (w.alloc A) W -> Calls Tryz.prog 132 #[.pointer (some ⟨mb, 0, none⟩), .iface tf xf] W (MPost base mb gm ng nl lm ((((((M.more (cw.map Int.ofNat)).more [23, -1]).more (tw.map Int.ofNat)).more [22, -1]).told ((M.more (cw.map Int.ofNat)).words.length + 1) ((((M.more (cw.map Int.ofNat)).more [23, -1]).more (tw.map Int.ofNat)).more [22, -1]).words.length).more ((cSt E (M.words.length + cw.length + 2 + tw.length + 2) f).map Int.ofNat)) V W) := fun W V hM A hk => by
  have := ihf Q W (.iface tf xf) _ V hM hE (hf.keep (((Mv.of_below (mb := mb) (v := v) (k1 A)).trans hk).keepQ h hQ)) hQ hOf (by rw [hm5]; rw [hite] at hbig; simp at hbig; omega)
  rw [hm5] at this
  exact this
 generalize hfw : cSt E (M.words.length + cw.length + 2 + tw.length + 2) f = fw at *
 have hm6 : ((((((M.more (cw.map Int.ofNat)).more [23, -1]).more (tw.map Int.ofNat)).more [22, -1]).told ((M.more (cw.map Int.ofNat)).words.length + 1) ((((M.more (cw.map Int.ofNat)).more [23, -1]).more (tw.map Int.ofNat)).more [22, -1]).words.length).more (fw.map Int.ofNat)).words.length = M.words.length + cw.length + 2 + tw.length + 2 + fw.length := by rw [more_len, hm5, List.length_map]
 have e9 : ((((((M.more (cw.map Int.ofNat)).more [23, -1]).more (tw.map Int.ofNat)).more [22, -1]).told ((M.more (cw.map Int.ofNat)).words.length + 1) ((((M.more (cw.map Int.ofNat)).more [23, -1]).more (tw.map Int.ofNat)).more [22, -1]).words.length).more (fw.map Int.ofNat)).told ((((M.more (cw.map Int.ofNat)).more [23, -1]).more (tw.map Int.ofNat)).words.length + 1) ((((((M.more (cw.map Int.ofNat)).more [23, -1]).more (tw.map Int.ofNat)).more [22, -1]).told ((M.more (cw.map Int.ofNat)).words.length + 1) ((((M.more (cw.map Int.ofNat)).more [23, -1]).more (tw.map Int.ofNat)).more [22, -1]).words.length).more (fw.map Int.ofNat)).words.length = M.more ((iteC E M.words.length c t f).map Int.ofNat) := by
  rw [ite_words, hm6, hm4, hite]
  congr 1
  simp
 rw [hite] at hbig
 simp only [List.length_append, List.length_cons, List.length_nil] at hbig
 have L1 := fun W V (hM : MK base mb gm ng nl lm W (M.more (cw.map Int.ofNat)) V) => lay0 hM [23, -1] 3 (by rw [hm1]; simp; omega)
 have L2 := fun W V (hM : MK base mb gm ng nl lm W (((M.more (cw.map Int.ofNat)).more [23, -1]).more (tw.map Int.ofNat)) V) => lay0 hM [22, -1] 3 (by rw [hm3]; simp; omega)
 have A1 := fun W V (hM : MK base mb gm ng nl lm W ((((M.more (cw.map Int.ofNat)).more [23, -1]).more (tw.map Int.ofNat)).more [22, -1]) V) => aimT hM (jump := (M.more (cw.map Int.ofNat)).words.length) (by rw [hm4, hm1]; omega) (by rw [hm4]; omega)
 have A2 := fun W V (hM : MK base mb gm ng nl lm W ((((((M.more (cw.map Int.ofNat)).more [23, -1]).more (tw.map Int.ofNat)).more [22, -1]).told ((M.more (cw.map Int.ofNat)).words.length + 1) ((((M.more (cw.map Int.ofNat)).more [23, -1]).more (tw.map Int.ofNat)).more [22, -1]).words.length).more (fw.map Int.ofNat)) V) => aimT hM (jump := (((M.more (cw.map Int.ofNat)).more [23, -1]).more (tw.map Int.ofNat)).words.length) (by rw [hm6, hm3]; omega) (by rw [hm6]; omega)
 rw [e9] at A2
 clear e9 hm1 hm2 hm3 hm4 hm5 hm6 hbig hite hcw htw hfw
 unfold MPost at hX hS hS2
 generalize M.more ((iteC E M.words.length c t f).map Int.ofNat) = M9 at *
 generalize (((((M.more (cw.map Int.ofNat)).more [23, -1]).more (tw.map Int.ofNat)).more [22, -1]).told ((M.more (cw.map Int.ofNat)).words.length + 1) ((((M.more (cw.map Int.ofNat)).more [23, -1]).more (tw.map Int.ofNat)).more [22, -1]).words.length).more (fw.map Int.ofNat) = M6 at *
 generalize ((((M.more (cw.map Int.ofNat)).more [23, -1]).more (tw.map Int.ofNat)).more [22, -1]).told ((M.more (cw.map Int.ofNat)).words.length + 1) ((((M.more (cw.map Int.ofNat)).more [23, -1]).more (tw.map Int.ofNat)).more [22, -1]).words.length = M5 at *
 generalize (((M.more (cw.map Int.ofNat)).more [23, -1]).more (tw.map Int.ofNat)).more [22, -1] = M4 at *
 generalize ((M.more (cw.map Int.ofNat)).more [23, -1]).more (tw.map Int.ofNat) = M3 at *
 generalize (M.more (cw.map Int.ofNat)).more [23, -1] = M2 at *
 generalize M.more (cw.map Int.ofNat) = M1 at *
 go_enter Tryz.func159, Tryz.ntmps159
 go_wp2_with (first
  | (go_at_call 184; have _q := hM6; refine (A2 _ _ hM6).mono ?_; rintro e w7 ⟨rfl, hM7, hv7⟩)
  | (go_at_call 132; have _q := hM5; refine (hS2 _ _ hM5 _ (hv1.trans (hv2.trans (hv3.trans (hv4.trans hv5))))).mono ?_; rintro e w6 ⟨rfl, v6, hM6, hv6⟩)
  | (go_at_call 184; have _q := hM4; refine (A1 _ _ hM4).mono ?_; rintro e w5 ⟨rfl, hM5, hv5⟩; have hd5 := Mv.new h (hv1.trans (hv2.trans (hv3.trans (hv4.trans hv5)))) 2)
  | (go_at_call 101; have _q := hM3; refine (L2 _ _ hM3).mono ?_; rintro e w4 ⟨rfl, v4, hM4, hv4⟩)
  | (go_at_call 132; refine (hS _ _ hM2 _ (hv1.trans hv2)).mono ?_; rintro e w3 ⟨rfl, v3, hM3, hv3⟩; have hd2 := Mv.new h (hv1.trans (hv2.trans hv3)) 2)
  | (go_at_call 101; refine (L1 _ _ hM1).mono ?_; rintro e w2 ⟨rfl, v2, hM2, hv2⟩; have hc1 := Mv.newW h hv1 hv2 1)
  | (go_at_call 155; refine (hX _).mono ?_; rintro e w1 ⟨rfl, v1, hM1, hv1⟩))
 go_end0
 exact ⟨rfl, v6, hM7, (Mv.of_below (k1 _)).trans (hv1.trans (hv2.trans (hv3.trans (hv4.trans (hv5.trans (hv6.trans hv7))))))⟩
theorem st_ite {E : CE} {c : Ex} {t f : St} (iht : ST base mb gm ng nl lm E t) (ihf : ST base mb gm ng nl lm E f) : ST base mb gm ng nl lm E (.ite c t f) := by
 intro Q w ve M v h hE hR hQ hW hbig
 cases hR with
 | ite hc hb hf =>
 rename_i vc vt vf
 rw [WhSt] at hW
 have hcc := hc.cells
 have hcb := hb.cells
 have hcf := hf.cells
 have hsc := run_store_one hc.one
 have hsb := run_store_one hb.one
 have hsf := run_store_one hf.one
 have hlt := h.lt
 have hl1 : (M.more [1]).words.length = M.words.length + 1 := by rw [more_len]; rfl
 have hce : cSt E M.words.length (.ite c t f) = [1] ++ iteC E (M.words.length + 1) c t f := by
  rw [cSt]; unfold iteC; split <;> rfl
 have hcl : (cSt E M.words.length (.ite c t f)).length = (iteC E (M.words.length + 1) c t f).length + 1 := by rw [hce]; simp
 rw [hcl] at hbig
 have L1 := fun A => lay1n h A [1] 3 (by simpa using (by omega : M.words.length + 1 <= 1000000))
 have e9 : (M.more [1]).more ((iteC E (M.words.length + 1) c t f).map Int.ofNat) = M.more ((cSt E M.words.length (.ite c t f)).map Int.ofNat) := by
  rw [more_more, hce]; simp
 have hX : ∀ W V, MK base mb gm ng nl lm W (M.more [1]) V -> Mv mb v V w W -> ∀ A, Calls Tryz.prog 159 #[.pointer (some ⟨mb, 0, none⟩), .agg #[vc, vt, vf]] (W.alloc A) (MPost base mb gm ng nl lm (M.more ((cSt E M.words.length (.ite c t f)).map Int.ofNat)) V (W.alloc A)) := fun W V hM hk A => by
  have kq : KeepQ Q w (W.alloc A) := (hk.trans (Mv.of_below ((Below.refl _ _).alloc (Nat.le_refl _) A))).keepQ h hQ
  rw [<- e9]
  by_cases hn : f.isNil = true
  ·have hfe : f = .nil := by cases f <;> first | rfl | (simp [St.isNil] at hn)
   subst hfe
   cases hf
   have := choice_nil iht (hM.below ((Below.refl _ _).alloc (Nat.le_refl _) A)) hE (hc.keep kq) (hb.keep kq) hQ hW.1 hW.2.1 (by rw [hl1]; omega)
   rw [hl1] at this
   exact this
  ·have hn' : f.isNil = false := by simpa using hn
   have hWf := hW.2.2.resolve_left hn
   have hvf : ∃ tf xf, vf = .iface tf xf := by
    cases hf <;> first | exact ⟨_, _, rfl⟩ | (simp [St.isNil] at hn)
   obtain ⟨tf, xf, rfl⟩ := hvf
   have := choice_two iht ihf (hM.below ((Below.refl _ _).alloc (Nat.le_refl _) A)) hE (hc.keep kq) (hb.keep kq) (hf.keep kq) hQ hW.1 hW.2.1 hWf hn' (by rw [hl1]; omega)
   rw [hl1] at this
   exact this
 clear e9 hbig hcl hl1 hce
 unfold MPost at hX
 generalize M.more [1] = M1 at *
 generalize M.more ((cSt E M.words.length (.ite c t f)).map Int.ofNat) = M9 at *
 go_enter Tryz.func132, Tryz.ntmps132
 go_wp2_with (first
  | (go_at_call 159; refine (hX _ _ hM1 hv1 _).mono ?_; rintro e w3 ⟨rfl, v3, hM3, hv3⟩)
  | (go_at_call 101; refine (L1 _).mono ?_; rintro e w1 ⟨rfl, v1, hM1, hv1⟩; have hlt1 := hM1.lt))
 go_end0
 exact ⟨rfl, v3, hM3, hv1.trans ((Mv.of_below ((Below.refl _ _).alloc (Nat.le_refl _) _)).trans hv3)⟩
theorem sl_of {E : CE} {l : List St} (ih : ∀ s ∈ l, ST base mb gm ng nl lm E s) : SL base mb gm ng nl lm E l := by
 intro Q w va vs M v h hE hS hA hQ hlen hW hbig
 have hlt := h.lt
 have hvl := hA.1
 obtain ⟨sa, scap, rfl⟩ := hS.len
 have HX : Hid (∀ (j : Nat) (hj : j < vs.length) (wr : World) (vr : Value), MK base mb gm ng nl lm wr (M.more ((cSts E M.words.length (l.take j)).map Int.ofNat)) vr -> Mv mb v vr w wr ->
   Calls Tryz.prog 132 #[.pointer (some ⟨mb, 0, none⟩), vs[j]] wr (fun e w' => e = .returned (.tuple #[]) /\ ∃ v', MK base mb gm ng nl lm w' (M.more ((cSts E M.words.length (l.take (j + 1))).map Int.ofNat)) v' /\ Mv mb vr v' wr w')) := by
  intro j hj wr vr hM hk
  have hja : j < l.length := by omega
  have he : l[j]? = some l[j] := List.getElem?_eq_getElem hja
  have hml : (M.more ((cSts E M.words.length (l.take j)).map Int.ofNat)).words.length = M.words.length + (cSts E M.words.length (l.take j)).length := by rw [more_len, List.length_map]
  have hst := cSts_take E l M.words.length j _ he
  have hle := cSts_take_le E l M.words.length (j + 1)
  rw [hst, List.length_append] at hle
  have := ih _ (List.getElem_mem hja) Q wr vs[j] _ vr hM hE ((hA.2 j _ _ (List.getElem?_eq_getElem hj) he).keep (hk.keepQ h hQ)) hQ (whSts_at hW he) (by rw [hml]; omega)
  rw [hml] at this
  unfold MPost at this
  rw [more_more, <- List.map_append, <- hst] at this
  exact this
 have HS : Hid (SliceV Q w (.slice sa vs.length scap) vs) := hS
 have hvle : vs.length <= 602 := by omega
 have hM0 : M.more ((cSts E M.words.length (l.take 0)).map Int.ofNat) = M := by rw [List.take_zero, cSts]; unfold Mkr.more; simp
 have HT : Hid (∀ j, ¬ j < vs.length -> l.take j = l) := fun j hj => List.take_of_length_le (by omega)
 clear hvl hbig hS
 generalize hMj : (fun l => M.more ((cSts E M.words.length l).map Int.ofNat)) = Mj at *
 have HMj : ∀ l, M.more ((cSts E M.words.length l).map Int.ofNat) = Mj l := fun l => by rw [<- hMj]
 rw [HMj] at hM0 ⊢
 simp only [HMj] at HX
 clear hMj HMj
 go_enter Tryz.func100, Tryz.ntmps100
 go_wp2
 go_loopw [5, 8] (fun _ i wr => ∃ (j : Nat) (vr : Value), i = .int .i64 j /\ j <= vs.length /\ MK base mb gm ng nl lm wr (Mj (l.take j)) vr /\ Mv mb v vr w wr) (fun _ i _ => vs.length - (intOf i).toNat)
 case atStart => exact ⟨0, v, rfl, Nat.zero_le _, by rw [hM0]; exact h, Mv.refl _ _ _⟩
 case round =>
  obtain ⟨j, vr, rfl, hj, hM, hk⟩ := hrel
  by_cases hlt2 : j < vs.length
  ·have hjv : j < vs.length := hlt2
   obtain ⟨b, cap, hv, hqb, hbl, hcell⟩ := HS.out.at hjv
   injection hv with hv1 hv2 hv3
   subst hv1 hv3
   clear hv2
   have hcw : wr.cell? ⟨b, j, none⟩ = some vs[j] := (hk.1.cell hbl (by
    rintro (e | e)
    ·exact (hQ b hqb).2 e
    ·have := (h.row b e).1; have := (hQ b hqb).1; omega) j).trans hcell
   have hX := HX.out j hjv wr vr hM hk
   clear hcell HX HS
   generalize vs[j] = vj at *
   go_wp2_with (go_at_call 132; refine hX.mono ?_; rintro e w5 ⟨rfl, v5, hM5, hk5⟩)
   go_roundw
   case rel => exact ⟨j + 1, v5, by go_num, by omega, hM5, hk.trans hk5⟩
   case measure => simp [intOf]; omega
  ·rw [HT.out j hlt2] at hM
   clear HX HS
   go_wp2
   go_end0
   exact ⟨rfl, vr, hM, hk⟩
mutual
theorem st_any {E : CE} : ∀ s, ST base mb gm ng nl lm E s
 | .nil => fun Q w ve M v h hE hR hQ hW hbig => by rw [WhSt] at hW; exact hW.elim
 | .assign n p e => st_assign n p e
 | .put n p i e => st_put n p i e
 | .proc n p args => st_proc n p args
 | .ite c t f => st_ite (st_any t) (st_any f)
 | .loop c b => st_loop (st_any b)
 | .block l => st_block (sl_of (sts_any l))
 | .write e => cst_write e
 | .read n p => cst_read n p
theorem sts_any {E : CE} : ∀ (l : List St), ∀ e ∈ l, ST base mb gm ng nl lm E e
 | [] => fun e he => by simp at he
 | a :: l => fun e he => by
  have h0 := st_any (E := E) a
  have h1 := sts_any (E := E) l
  rcases List.mem_cons.1 he with h | h
  ·rw [h]; exact h0
  ·exact h1 e h
end
theorem sl_any {E : CE} (l : List St) : SL base mb gm ng nl lm E l := sl_of (sts_any l)
end
end Go.Proofs.YtklobognaldjpaaGreat
