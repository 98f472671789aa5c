/- The law Called: a func that calls itself. For every number, lecternkeep.Called returns true: a func that calls itself comes back with the sum, if no more calls go on than may. No condition. -/
import Derived.Test.YtklobognaldjpaaGreatCKp7
import Derived.Test.YtklobognaldjpaaGreatRows
import Derived.WalkKit
import Derived.ProofKit
import Derived.OpenShut
import Derived.ShutString
import Derived.Below
namespace Go.Proofs.YtklobognaldjpaaGreat
open Go.RowKit

theorem tri_eq (k : Nat) : ((k : Int) * ((k : Int) + 1)).tdiv 2 = ((k * (k + 1) / 2 : Nat) : Int) := by
  have e : (k : Int) * ((k : Int) + 1) = ((k * (k + 1) : Nat) : Int) := by simp
  rw [e, Int.tdiv_eq_ediv_of_nonneg (by omega)]
  omega

theorem tri_le {k : Nat} (h : k < 60) : k * (k + 1) ≤ 3540 := by
  have := Nat.mul_le_mul (show k ≤ 59 by omega) (show k + 1 ≤ 60 by omega)
  omega

set_option maxRecDepth 1000000 in
set_option maxHeartbeats 2000000 in
theorem Called_any (n : Int) (w : World) (h1 : -9223372036854775808 ≤ n) (h2 : n ≤ 9223372036854775807) :
    Calls Tryz.prog 8 #[.int .i64 n] w fun e w' => e = .returned (.bool true) ∧ Below w.heap.size w w' := by
  obtain ⟨k, hk, hkl⟩ : ∃ k : Nat, pickI n 60 = k ∧ k < 60 := ⟨(pickI n 60).toNat, by have := (pickI_lt n (n := 60) (by omega)).2.1; simp at this; omega, (pickI_lt n (n := 60) (by omega)).1⟩
  obtain ⟨hch, hrun⟩ := called_at hkl
  have hP := fun W => pick_any n 60 W h1 h2 (by omega) (by omega)
  rw [hk] at hP
  have hD := fun W => digits_any k W (by omega)
  have hR := fun W => running_any W
  have hdl : (digL k).length ≤ 20 := digF_len 20 k
  have htl := tri_le hkl
  obtain ⟨m, hm, hml⟩ : ∃ m : Nat, (k : Int) * ((k : Int) + 1) = (m : Int) ∧ m ≤ 3540 := ⟨k * (k + 1), by simp, htl⟩
  have hq : (m : Int).tdiv 2 = ((k * (k + 1) / 2 : Nat) : Int) := by rw [← hm]; exact tri_eq k
  have hq2 : (m : Int) / 2 = ((k * (k + 1) / 2 : Nat) : Int) := by rw [← Int.tdiv_eq_ediv_of_nonneg (by omega)]; exact hq
  generalize ht : k * (k + 1) / 2 = t at *
  have htb : t ≤ 3540 := by omega
  have HT1 : Hid (∀ (W : World) (n : Nat), n = W.heap.size → IntsC (W.alloc (.cells #[.int .i64 (t : Nat)] 3)) (.slice (some ⟨n, 0, none⟩) 1 1) [(t : Int)]) := fun W n hn => (ints_new hn [(t : Int)] (by simp) (fun m => r_one (by omega) (by omega))).c (by simp)
  by_cases h30 : k + 1 ≤ 30
  · have h30i : (k : Int) + 1 ≤ 30 := by omega
    obtain ⟨u, hu, hul⟩ : ∃ u : Nat, u = 1 + 3 * (k + 1) ∧ u < 1000 := ⟨_, rfl, by omega⟩
    have hO : callO k = (0, [(t : Int)], u) := by unfold callO; rw [if_pos h30, ht, hu]
    have HU : Hid (u = 1 + 3 * (k + 1)) := hu
    clear hu
    have Rn : Hid (∀ W : World, Calls Tryz.prog 19 #[.string ⟨(callA ++ digL k ++ callB).toArray⟩, .slice none 0 0, .int .i64 3000] W fun e w' => Below W.heap.size W w' ∧ ∃ oa oc, e = .returned (.tuple #[.agg #[.int .i64 0, .slice oa 1 oc, .int .i64 (u : Nat)], .int .i64 0, .int .i64 0]) ∧ Hid (OutAt w' (.agg #[.int .i64 0, .slice oa 1 oc, .int .i64 (u : Nat)]) (0, [(t : Int)], u))) := fun W =>
      run_is (o := (0, [(t : Int)], u)) (by rw [hch]) (hrun.trans hO) (by decide) rfl (IntsAt.nil W) (by simp)
    rw [← str_add, ← str_add] at Rn
    unfold callA callB at Rn
    clear hO hch hrun ht hq htl
    go_enter Tryz.func8, Tryz.ntmps8
    go_wp2_with (first
      | (go_at_call 20; have _q := hb2; refine Calls.mono (is_at (r := false) (code := 13) (used := 91) (HO2.out) (IntsC.nil _) rfl rfl (by simp)) ?_; rintro e w3 ⟨rfl, hb3⟩)
      | (go_at_call 20; refine Calls.mono (is_at (r := true) (code := 0) (used := u) ((HO1.out.below (up_two _ _ _))) (HT1.out _ _ (by first | rfl | simp)) rfl (by have := HU.out; omega) (by simp)) ?_; rintro e w2 ⟨rfl, hb2⟩; have HO2 : Hid (OutAt w2 (.agg #[.int .i64 0, .slice oa 1 oc, .int .i64 (u : Nat)]) (0, [(t : Int)], u)) := HO1.out.below (below_two hb2); have j0 : w2.cell? ⟨w1.heap.size, 0, none⟩ = some (.int .i64 0) := kept_two hb2 0; have j1 : w2.cell? ⟨w1.heap.size, 1, none⟩ = some (.slice oa 1 oc) := kept_two hb2 1; have j2 : w2.cell? ⟨w1.heap.size, 2, none⟩ = some (.int .i64 (u : Nat)) := kept_two hb2 2)
      | (go_at_call 17; refine (hR _).mono ?_; rintro e wa ⟨rfl, hba⟩)
      | (go_at_call 23; refine (hP _).mono ?_; rintro e wp ⟨rfl, h9⟩; cases h9)
      | (go_at_call 27; refine (hD _).mono ?_; rintro e wd ⟨rfl, hbd⟩)
      | (go_at_call 19; refine Calls.mono (Rn.out _) ?_; rintro e w1 ⟨hb1, oa, oc, rfl, HO1⟩))
    go_ret
    have q1 := below_two hb2
    have q2 := q1.trans (hb3.mono q1.size)
    have q3 := hb1.trans (q2.mono hb1.size)
    have q4 := hbd.trans (q3.mono hbd.size)
    exact ⟨rfl, hba.trans (q4.mono hba.size)⟩
  · have h30i : ¬ (k : Int) + 1 ≤ 30 := by omega
    have hO : callO k = (13, [], 91) := by unfold callO; rw [if_neg h30]
    have Rn : Hid (∀ W : World, Calls Tryz.prog 19 #[.string ⟨(callA ++ digL k ++ callB).toArray⟩, .slice none 0 0, .int .i64 3000] W fun e w' => Below W.heap.size W w' ∧ ∃ oa oc, e = .returned (.tuple #[.agg #[.int .i64 13, .slice oa 0 oc, .int .i64 91], .int .i64 0, .int .i64 0]) ∧ Hid (OutAt w' (.agg #[.int .i64 13, .slice oa 0 oc, .int .i64 91]) (13, [], 91))) := fun W =>
      run_is (o := (13, [], 91)) (by rw [hch]) (hrun.trans hO) (by decide) rfl (IntsAt.nil W) (by simp)
    rw [← str_add, ← str_add] at Rn
    unfold callA callB at Rn
    clear hO hch hrun ht hq htl
    go_enter Tryz.func8, Tryz.ntmps8
    go_wp2_with (first
      | (go_at_call 20; have _q := hb2; refine Calls.mono (is_at (r := true) (code := 13) (used := 91) (HO2.out) (IntsC.nil _) rfl rfl (by simp)) ?_; rintro e w3 ⟨rfl, hb3⟩)
      | (go_at_call 20; refine Calls.mono (is_at (r := false) (code := 0) (used := 1 + 3 * (k + 1)) ((HO1.out.below (up_two _ _ _))) (HT1.out _ _ (by first | rfl | simp)) rfl (by omega) (by simp)) ?_; rintro e w2 ⟨rfl, hb2⟩; have HO2 : Hid (OutAt w2 (.agg #[.int .i64 13, .slice oa 0 oc, .int .i64 91]) (13, [], 91)) := HO1.out.below (below_two hb2); have j0 : w2.cell? ⟨w1.heap.size, 0, none⟩ = some (.int .i64 13) := kept_two hb2 0; have j1 : w2.cell? ⟨w1.heap.size, 1, none⟩ = some (.slice oa 0 oc) := kept_two hb2 1; have j2 : w2.cell? ⟨w1.heap.size, 2, none⟩ = some (.int .i64 91) := kept_two hb2 2)
      | (go_at_call 17; refine (hR _).mono ?_; rintro e wa ⟨rfl, hba⟩)
      | (go_at_call 23; refine (hP _).mono ?_; rintro e wp ⟨rfl, h9⟩; cases h9)
      | (go_at_call 27; refine (hD _).mono ?_; rintro e wd ⟨rfl, hbd⟩)
      | (go_at_call 19; refine Calls.mono (Rn.out _) ?_; rintro e w1 ⟨hb1, oa, oc, rfl, HO1⟩))
    go_ret
    have q1 := below_two hb2
    have q2 := q1.trans (hb3.mono q1.size)
    have q3 := hb1.trans (q2.mono hb1.size)
    have q4 := hbd.trans (q3.mono hbd.size)
    exact ⟨rfl, hba.trans (q4.mono hba.size)⟩

end Go.Proofs.YtklobognaldjpaaGreat

namespace Go.Proofs.YtklobognaldjpaaGreat
open Go.ChangeShapes Go.WideShapes Go.ChangeAt Go.RowKit

theorem row_own : ownKnob Tryz.prog.godebug = none := by kernel_rfl

set_option maxRecDepth 100000 in
theorem row_lifted (os : Os) (started : os.Started) (H : Type) (enc : TypeId × Value → H) :
    ReturnsInHanded {} Tryz.checked os 8 .any (Rows.calledSpec.pre6 enc Tryz.prog Tryz.f8 Rows.calledRow.domain false) (Rows.calledSpec.post enc Tryz.prog Tryz.f8 false true false false) := by
  refine returnsInHanded_of_change (C := Tryz.checked) row_own started (by kernel_rfl) Tryz.func8
    (ChangeSpec.witness6 (enc := enc) (C := Tryz.checked) false ⟨#[], #[.int .i64 0], []⟩ 8 (by kernel_rfl) (by kernel_rfl) (by kernel_rfl) (by kernel_rfl)) ?_
  intro W base args ds gs before hval0 hW hcnd _
  have hval : ∀ (j : Nat) t v, Tryz.f8.params[j]? = some t → args[j]? = some v → Value.okWide Tryz.prog W .any base t v := hval0
  have hW' := hW
  obtain ⟨p, q, hA0, hV, rfl, hfz, hnd⟩ := hW
  have hA : DataW.TrodAll enc Tryz.prog W 0 (fun _ => true) true Tryz.f8.params.toList args.toList ds p := hA0
  rw [Tryz.params8] at hA hval
  obtain ⟨v0, vs0, d0, ds0, p0, q0, hargs, rfl, rfl, h0, r0⟩ := trodAll_cons hA
  obtain ⟨rfl, rfl, rfl⟩ := trodAll_nil r0
  obtain rfl : args = #[v0] := by cases args; simp_all
  obtain ⟨rfl, rfl⟩ := trodVars_none hV
  obtain ⟨a0, rfl, rfl, rfl, w0⟩ := open_int Tryz.underlying3 (hval 0 3 v0 rfl rfl) h0
  clear hA0 hval0
  obtain ⟨g1, g2⟩ := bounds_i64 w0
  simp only [List.append_nil] at hW'
  refine (Called_any a0 W g1 g2).mono fun e W' ⟨he, bel⟩ => ?_
  subst he
  exact ⟨_, rfl, _, _, _, [], _, [], hW', trodAll_mk1 (shut_bool Tryz.underlying4 _), (trodAll_cons_mk (shut_int Tryz.underlying3 w0) trodAll_mk0), rfl, bel.frame _, fun h => by cases h⟩

theorem row_over : Rows.calledRow.holds Tryz.pinned (OpenSpec.ofChange Rows.calledSpec) :=
  OpenClaim.holds_of_wide 8 Tryz.f8 rfl rfl rfl rfl rfl rfl rfl ⟨rfl, rfl, rfl, rfl, rfl⟩ rfl rfl rfl rfl rfl (by kernel_rfl) Tryz.func8 (by kernel_rfl)
    (of_decide_eq_true (by kernel_rfl)) (by unfold Func.isWrapper; first | (rw [if_pos (by decide +kernel)]; kernel_rfl) | (rw [if_neg (by decide +kernel)]; exact ⟨rfl, rfl⟩))
    (fun os started H enc _ => row_lifted os started H enc)

theorem called_holds : Rows.CalledSaid :=
  row_over
#print axioms called_holds

end Go.Proofs.YtklobognaldjpaaGreat
