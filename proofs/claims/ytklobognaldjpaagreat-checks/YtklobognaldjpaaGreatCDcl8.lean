/- The reference's walk: the program. -/
import Derived.Test.YtklobognaldjpaaGreatCDcl6
import Derived.Test.YtklobognaldjpaaGreatCNam4
import Derived.Test.YtklobognaldjpaaGreatCWk12
import Derived.Test.YtklobognaldjpaaGreatCLook5
namespace Go.Proofs.YtklobognaldjpaaGreat
open Go.RowKit

section
variable {wb tb cap : Nat} {T : List Tok} {m : Option Nm} {n : Nm} {w w0 : World} {s : PS}

set_option maxRecDepth 100000 in
set_option maxHeartbeats 1000000 in
theorem of_dead (h : RW wb tb cap T m w s) (hg : Good T s) (hs : Stk T s) (hc : s.code ≠ 0) (i kr : Int) :
    Calls Tryz.prog 124 #[.pointer (some ⟨wb, 0, none⟩), .int .i64 i, .int .i64 kr] w fun e w' => e = .returned (.int .i64 (s.next : Int)) ∧ RW wb tb cap T m w' s ∧ Par wb w w' := by
  have hfa := h.fault
  have hW := wrong_any h hg 4 i (fun h0 => absurd h0 hc)
  rw [fails_still 4 hs hc] at hW
  have hz' : ((s.code : Int) != 0) = true := by simp; omega
  clear hc
  go_enter Tryz.func124, Tryz.ntmps124
  go_wp2_with (go_at_call 98; refine hW.mono ?_; rintro e w2 ⟨rfl, hP2, hk2⟩)
  go_ret
  exact ⟨rfl, hP2, hk2⟩

/-- The same is wrong, at the same place. -/
def Same (a b : PS) : Prop := a.code = b.code ∧ a.at_ = b.at_

/-- The end of the text must be there. -/
theorem over_any (hT : Toks T) (h : RW wb tb cap T m w s) (hg : Good T s) (hs : Stk T s) :
    Calls Tryz.prog 124 #[.pointer (some ⟨wb, 0, none⟩), .int .i64 (s.next : Int), .int .i64 4] w fun e w' => (∃ j : Int, e = .returned (.int .i64 j)) ∧ ∃ r, RW wb tb cap T m w' r ∧ Same r (endP T s) ∧ Par wb w w' := by
  by_cases hc : s.code = 0
  · refine (of_any hT h hg hs s.next (fun _ => rfl) .over 4 rfl (.inr hc)).mono ?_
    rintro e w' ⟨rfl, hP, hk⟩
    refine ⟨⟨_, rfl⟩, _, hP, ?_, hk⟩
    unfold ofK endP
    split
    · exact ⟨rfl, rfl⟩
    · exact ⟨rfl, rfl⟩
  · refine (of_dead h hg hs hc s.next 4).mono ?_
    rintro e w' ⟨rfl, hP, hk⟩
    refine ⟨⟨_, rfl⟩, s, hP, ?_, hk⟩
    unfold endP
    split
    · exact ⟨rfl, rfl⟩
    · rw [fails_still 4 hs hc]; exact ⟨rfl, rfl⟩

set_option maxRecDepth 100000 in
set_option maxHeartbeats 1000000 in
theorem refBody_any (hT : Toks T) (hfx : FxA T) (h : RW wb tb cap T m w s) (hg : Good T s) (hs : Stk T s) (i : Int) (hi : At s i) :
    Calls Tryz.prog 95 #[.pointer (some ⟨wb, 0, none⟩), .int .i64 i] w fun e w' => e = .returned (.tuple #[]) ∧ ∃ r, RW wb tb cap T m w' r ∧ Same r (endP T (want T (bs [46]) (want T (bs [101, 110, 100]) (listOf T (stmtN T (mdE m) 14) s).2))) ∧ Par wb w w' := by
  have hL := lists_ok (m := m) hT hfx w s i true h hg hs hi
  have h1 := go2_list hT (mdE m) 14 hg hs
  have hL' : Calls Tryz.prog 122 #[.pointer (some ⟨wb, 0, none⟩), .int .i64 i, .int .i64 1, .bool true] w (WSt wb tb cap T m (listOf T (stmtN T (mdE m) 14) s).2 w) := hL
  clear hL
  have h2 := go2_want hT (f := bs [101, 110, 100]) (bs_ne _ (by simp)) h1.good h1.stk
  generalize (listOf T (stmtN T (mdE m) 14) s).2 = r1 at *
  have hN1 := fun W j (hj : At r1 j) (hP : RW wb tb cap T m W r1) => need_any hT hP h1.good h1.stk j hj (bs [101, 110, 100]) (hfx _ (by decide))
  generalize want T (bs [101, 110, 100]) r1 = r2 at *
  have hN2 := fun W (hP : RW wb tb cap T m W r2) => need_any hT hP h2.good h2.stk r2.next (fun _ => rfl) (bs [46]) (hfx _ (by decide))
  have h3 := go2_want hT (f := bs [46]) (bs_ne _ (by simp)) h2.good h2.stk
  generalize want T (bs [46]) r2 = r3 at *
  have hO := fun W (hP : RW wb tb cap T m W r3) => over_any hT hP h3.good h3.stk
  have hm := mdI_ne m
  go_enter Tryz.func95, Tryz.ntmps95
  go_wp2_with (first
    | (go_at_call 122; refine hL'.mono ?_; rintro e w1 ⟨j1, rfl, ha1, hP1, hk1⟩; have hmo := hP1.mode_)
    | (go_at_call 123; have _q := hP2; refine (hN2 _ hP2).mono ?_; rintro e w3 ⟨rfl, hP3, hk3⟩)
    | (go_at_call 123; refine (hN1 _ _ ha1 hP1).mono ?_; rintro e w2 ⟨rfl, hP2, hk2⟩)
    | (go_at_call 124; refine (hO _ hP3).mono ?_; rintro e w4 ⟨⟨j4, rfl⟩, r4, hP4, hr4, hk4⟩))
  go_end0
  exact ⟨rfl, r4, hP4, hr4, ((hk1.trans hk2).trans hk3).trans hk4⟩

/-- What a proc or func does to the walk. -/
def RRout (wb tb cap : Nat) (T : List Tok) (w0 : World) : Prop :=
  ∀ (m : Option Nm) (w : World) (s : PS) (i : Int) (kind : Nat), RD wb tb cap T w0 m w s → Good T s → Stk T s → At s i → (s.code = 0 → CntE (mdE m) s) →
    Calls Tryz.prog 97 #[.pointer (some ⟨wb, 0, none⟩), .int .i64 i, .int .i64 kind] w (RDecl wb tb cap T w0 m (routineN T (mdE m) kind s).1 (routineN T (mdE m) kind s).2)

/-- From a place among the declarations on. -/
def finN (T : List Tok) (n : Nat) (E : Option Env) (s : PS) : PS := endP T (want T (bs [46]) (mainN T (globalsLoopN T n E s).1 (globalsLoopN T n E s).2))

theorem mainN_dead (hT : Toks T) (E : Option Env) {s : PS} (hg : Good T s) (hs : Stk T s) (hc : s.code ≠ 0) : mainN T E s = s := by
  have h1 := go2_want hT (f := bs [98, 101, 103, 105, 110]) (bs_ne _ (by simp)) hg hs
  have h2 := h1.trans (go2_list hT E 14 h1.good h1.stk)
  have h3 := h2.trans (go2_want hT (f := bs [101, 110, 100]) (bs_ne _ (by simp)) h2.good h2.stk)
  exact h3.still hc

theorem finN_dead (hT : Toks T) (n : Nat) (E : Option Env) {s : PS} (hg : Good T s) (hs : Stk T s) (hc : s.code ≠ 0) : Same s (finN T n E s) := by
  unfold finN
  rw [globalsLoopN_dead hT hs hc]
  show Same s (endP T (want T (bs [46]) (mainN T E s)))
  rw [mainN_dead hT E hg hs hc, dead_want hT (bs_ne _ (by simp)) hs hc]
  unfold endP
  split
  · exact ⟨rfl, rfl⟩
  · rw [fails_still 4 hs hc]; exact ⟨rfl, rfl⟩

theorem finN_bad (hT : Toks T) (n : Nat) (E : Option Env) {s : PS} (hc : s.code = 0) (h1 : sees T (bs [118, 97, 114]) s = false) (h2 : sees T (bs [112, 114, 111, 99]) s = false) (h3 : sees T (bs [102, 117, 110, 99]) s = false) (h4 : sees T (bs [98, 101, 103, 105, 110]) s = false) :
    finN T n E (fails T 4 s) = finN T n E s := by
  have hd : (fails T 4 s).code ≠ 0 := by simp [fails, hc]
  have e1 : globalsLoopN T n E s = (E, s) := by
    cases n with
    | zero => rfl
    | succ n => rw [globalsLoopN, if_neg (by rw [h1]; simp), if_neg (by rw [h2]; simp), if_neg (by rw [h3]; simp)]
  have e2 : want T (bs [98, 101, 103, 105, 110]) s = fails T 4 s := by unfold want; rw [if_neg (by rw [h4]; simp)]
  have e3 : mainN T E s = mainN T E (fails T 4 s) := by
    unfold mainN
    rw [e2, dead_want hT (bs_ne _ (by simp)) (stk_fails 4 s) hd]
  unfold finN
  rw [globalsLoopN_dead hT (stk_fails 4 s) hd, e1, e3]

theorem finN_begin {n : Nat} {E : Option Env} {s : PS} (h1 : sees T (bs [98, 101, 103, 105, 110]) s = true) : finN T n E s = endP T (want T (bs [46]) (want T (bs [101, 110, 100]) (listOf T (stmtN T E 14) (adv s)).2)) := by
  have e1 : globalsLoopN T n E s = (E, s) := by
    cases n with
    | zero => rfl
    | succ n => rw [globalsLoopN, if_neg (by rw [sees_one (b := [118, 97, 114]) h1 (by decide)]; simp), if_neg (by rw [sees_one (b := [112, 114, 111, 99]) h1 (by decide)]; simp), if_neg (by rw [sees_one (b := [102, 117, 110, 99]) h1 (by decide)]; simp)]
  have e2 : want T (bs [98, 101, 103, 105, 110]) s = adv s := by unfold want; rw [if_pos h1]
  unfold finN mainN
  rw [e1]
  show endP T (want T (bs [46]) (want T (bs [101, 110, 100]) (listOf T (stmtN T E 14) (want T (bs [98, 101, 103, 105, 110]) s)).2)) = _
  rw [e2]

theorem finN_var {n : Nat} {E : Option Env} {s : PS} (h1 : sees T (bs [118, 97, 114]) s = true) : finN T (n + 1) E s = finN T n (itemsN T E (adv s)).1 (itemsN T E (adv s)).2 := by
  unfold finN
  rw [globalsLoopN, if_pos h1]

theorem finN_proc {n : Nat} {E : Option Env} {s : PS} (h1 : sees T (bs [112, 114, 111, 99]) s = true) : finN T (n + 1) E s = finN T n (routineN T E 2 (adv s)).1 (routineN T E 2 (adv s)).2 := by
  unfold finN
  rw [globalsLoopN, if_neg (by rw [sees_one (b := [118, 97, 114]) h1 (by decide)]; simp), if_pos h1]

theorem finN_func {n : Nat} {E : Option Env} {s : PS} (h1 : sees T (bs [102, 117, 110, 99]) s = true) : finN T (n + 1) E s = finN T n (routineN T E 3 (adv s)).1 (routineN T E 3 (adv s)).2 := by
  unfold finN
  rw [globalsLoopN, if_neg (by rw [sees_one (b := [118, 97, 114]) h1 (by decide)]; simp), if_neg (by rw [sees_one (b := [112, 114, 111, 99]) h1 (by decide)]; simp), if_pos h1]

/-- What is wrong, as it lies in memory. -/
def faultOf (w : World) (wb : Nat) : Int := match w.cell? ⟨wb, 2, none⟩ with
  | some (.int _ c) => c
  | _ => 1

theorem faultOf_eq {w : World} {wb : Nat} {k : IntKind} {c : Int} (h : w.cell? ⟨wb, 2, none⟩ = some (.int k c)) : faultOf w wb = c := by unfold faultOf; rw [h]

/-- How far there is to go. -/
def leftOf (n : Nat) (w : World) (wb : Nat) (i : Value) : Nat := if faultOf w wb = 0 then n + 1 - (intOf i).toNat else 0

theorem left_less {w w' : World} {i i' : Nat} {j : Int} (h0 : w.cell? ⟨wb, 2, none⟩ = some (.int .i64 0)) (hi : i < T.length) {c : Nat} (h1 : w'.cell? ⟨wb, 2, none⟩ = some (.int .i64 (c : Int))) (hj : c = 0 → j = i' ∧ i < i') :
    leftOf T.length w' wb (.int .i64 j) < leftOf T.length w wb (.int .i64 (i : Int)) := by
  unfold leftOf
  rw [faultOf_eq h0, faultOf_eq h1, if_pos rfl]
  by_cases hc : c = 0
  · obtain ⟨rfl, h2⟩ := hj hc
    rw [if_pos (by omega)]
    simp [intOf]; omega
  · rw [if_neg (by omega)]
    simp [intOf]; omega

end

end Go.Proofs.YtklobognaldjpaaGreat
