/- The law Counted: a loop that counts down. For every two numbers, lecternkeep.Counted returns true: a loop that counts down takes three units a round. No condition. -/
import Derived.Test.YtklobognaldjpaaGreatCKp7
import Derived.Test.YtklobognaldjpaaGreatCEv4
import Derived.Test.YtklobognaldjpaaGreatRows
import Derived.WalkKit
import Derived.ProofKit
import Derived.OpenShut
import Derived.ShutString
import Derived.Below
namespace Go.Proofs.YtklobognaldjpaaGreat
open Go.RowKit

theorem own_cap {w : World} {base : Nat} {e : TypeId} {a : Option Addr} {n cap : Nat} {xs : List Value} (h : w.ownsRow base e 1 (.slice a n cap) n xs) : n ≤ cap := by
  rcases h.2 with ⟨h3, _⟩ | ⟨g, c, cur, h3, _, _, h4, _⟩
  · injection h3 with _ h5 h6; omega
  · injection h3 with _ h5 h6; omega

theorem run_at {l : List UInt8} {v : Value} {zs : List Int} {fuel : Int} {w : World} {o : Nat × List Int × Nat} {c u : Int} {n : Nat} (hc : (checkP l).1 = 0) (ho : outcome (treeOf l) zs fuel.toNat = o) (hf : 0 ≤ fuel ∧ fuel ≤ 3000) (hok : okIn zs = true) (hin : IntsAt w v zs) (hl : zs.length ≤ 35184372088831) (h1 : c = o.1) (h2 : n = o.2.1.length) (h3 : u = o.2.2) :
    Calls Tryz.prog 19 #[.string ⟨l.toArray⟩, v, .int .i64 fuel] w fun e w' => Below w.heap.size w w' ∧ ∃ oa oc, e = .returned (.tuple #[.agg #[.int .i64 c, .slice oa n oc, .int .i64 u], .int .i64 0, .int .i64 0]) ∧ n ≤ oc ∧ OutAt w' (.agg #[.int .i64 c, .slice oa n oc, .int .i64 u]) o := by
  subst h1 h2 h3
  refine (run_any ⟨l.toArray⟩ v zs fuel w hin hl).mono ?_
  rintro e w' ⟨hb, h⟩
  have el : (⟨l.toArray⟩ : ByteArray).data.toList = l := rfl
  rw [el] at h
  rcases h with h | h | h | h
  · exact absurd hc h.1
  · exact absurd hf h.2.1
  · rw [hok] at h; cases h.2.2.1
  · obtain ⟨_, _, _, oa, oc, he, how, h60⟩ := h
    rw [ho] at he how h60
    exact ⟨hb, oa, oc, he, own_cap how, _, rfl, IntsC.own how (by omega)⟩

theorem OutAt.ints {w : World} {a u b : Value} {o : Nat × List Int × Nat} (h : OutAt w (.agg #[a, u, b]) o) : IntsC w u o.2.1 := by
  obtain ⟨u', e, h⟩ := h
  have e2 := congrArg (fun v => match v with | .agg xs => xs[1]? | _ => none) e
  have e3 : u = u' := Option.some.inj e2
  rw [e3]; exact h

theorem down_len : ∀ k, (down k).length = k
  | 0 => rfl
  | k + 1 => by simp [down, down_len k]

theorem down_at : ∀ (k i : Nat), i < k → (down k).getD i 0 = (k : Int) - i
  | k + 1, 0, _ => by simp [down, List.getD]
  | k + 1, i + 1, h => by
    have := down_at k i (by omega)
    simp only [down, List.getD, List.getElem?_cons_succ] at this ⊢
    rw [this]; omega

theorem IntsC.take {w : World} {a : Option Addr} {n cap : Nat} {zs : List Int} (h : IntsC w (.slice a n cap) zs) (m : Nat) (hm : m ≤ n) : IntsC w (.slice a m cap) (zs.take m) := by
  obtain ⟨a2, cap2, e, hl, h3⟩ := h
  cases e
  have hlen : (zs.take m).length = m := by rw [List.length_take]; omega
  refine ⟨a, cap, by rw [hlen], by omega, ?_⟩
  rcases h3 with rfl | ⟨b, off, rfl, hb, hc⟩
  · exact .inl (by simp)
  · refine .inr ⟨b, off, rfl, hb, fun i hi => ?_⟩
    rw [hlen] at hi
    rw [hc i (by omega)]
    simp [List.getD, hi]

theorem below_undrew {W w2 : World} (h : Below W.drew.heap.size W.drew w2) : Below W.heap.size W w2 := ⟨h.os, h.tape, h.output, h.size, h.block⟩

set_option maxRecDepth 1000000 in
set_option maxHeartbeats 4000000 in
theorem Counted_any (n less : Int) (w : World) (h1 : -9223372036854775808 ≤ n) (h2 : n ≤ 9223372036854775807) (h3 : -9223372036854775808 ≤ less) (h4 : less ≤ 9223372036854775807) :
    Calls Tryz.prog 7 #[.int .i64 n, .int .i64 less] w fun e w' => e = .returned (.bool true) ∧ Below w.heap.size w w' := by
  obtain ⟨p, hp, hpl⟩ : ∃ p : Nat, pickI n 50 = p ∧ p < 50 := ⟨(pickI n 50).toNat, by have := (pickI_lt n (n := 50) (by omega)).2.1; simp at this; omega, (pickI_lt n (n := 50) (by omega)).1⟩
  have hpk := pickI_lt less (n := 3 * (1 + p) + 2) (by omega)
  obtain ⟨f, hf, hfl⟩ : ∃ f : Nat, pickI less (3 * (1 + (p : Int)) + 2) = f ∧ f < 3 * (1 + p) + 2 := by
    have e : (((3 * (1 + p) + 2 : Nat)) : Int) = 3 * (1 + (p : Int)) + 2 := by omega
    rw [e] at hpk
    exact ⟨(pickI less (3 * (1 + (p : Int)) + 2)).toNat, by omega, hpk.1⟩
  have hP := fun W => pick_any n 50 W h1 h2 (by omega) (by omega)
  have hP2 := fun W => pick_any less (3 * (1 + (p : Int)) + 2) W h3 h4 (by omega) (by omega)
  rw [hp] at hP
  rw [hf] at hP2
  have hR := fun W => running_any W
  have hk : 1 + p ≤ 50 := by omega
  have hz : [((1 + p : Nat) : Int)] = [1 + (p : Int)] := by simp
  have o1 := cnt_out hk (3 * (1 + p) + 2)
  have o2 := cnt_out hk f
  rw [hz] at o1 o2
  have hO1 : cntO (1 + p) (3 * (1 + p) + 2) = (0, down (1 + p), 3 * (1 + p) + 2) := by unfold cntO; rw [if_pos (by omega)]
  have hO2 : cntO (1 + p) f = (8, (down (1 + p)).take (if f = 0 then 0 else wrt (f - 1)), f) := by unfold cntO; rw [if_neg (by omega)]
  rw [hO1] at o1
  rw [hO2] at o2
  have hwl : (if f = 0 then 0 else wrt (f - 1)) ≤ 1 + p := by unfold wrt; split <;> (try split) <;> omega
  obtain ⟨q, hq, hql⟩ : ∃ q, (if f = 0 then 0 else wrt (f - 1)) = q ∧ q ≤ 1 + p := ⟨_, rfl, hwl⟩
  have HQ : Hid ((if f = 0 then 0 else wrt (f - 1)) = q) := hq
  rw [hq] at o2
  have hokz : okIn [1 + (p : Int)] = true := by unfold okIn; simp; omega
  have hzr : ∀ m ∈ [1 + (p : Int)], -9223372036854775808 ≤ m ∧ m ≤ 9223372036854775807 := fun m => r_one (by omega) (by omega)
  have R1 : Hid (∀ (W : World) (n : Nat), n = W.heap.size → Calls Tryz.prog 19 #[.string ⟨cntL.toArray⟩, .slice (some ⟨n, 0, none⟩) 1 1, .int .i64 (3 * (1 + (p : Int)) + 2)] (W.alloc (.cells #[.int .i64 (1 + (p : Int))] 3)) fun e w' => Below (W.alloc (.cells #[.int .i64 (1 + (p : Int))] 3)).heap.size (W.alloc (.cells #[.int .i64 (1 + (p : Int))] 3)) w' ∧ ∃ oa oc, e = .returned (.tuple #[.agg #[.int .i64 0, .slice oa (1 + p) oc, .int .i64 (3 * (1 + (p : Int)) + 2)], .int .i64 0, .int .i64 0]) ∧ 1 + p ≤ oc ∧ Hid (OutAt w' (.agg #[.int .i64 0, .slice oa (1 + p) oc, .int .i64 (3 * (1 + (p : Int)) + 2)]) (0, down (1 + p), 3 * (1 + p) + 2))) := fun W n hn =>
    run_at (by rw [cnt_check]) (by rw [show (3 * (1 + (p : Int)) + 2).toNat = 3 * (1 + p) + 2 by omega]; exact o1) (by omega) hokz (ints_new hn [1 + (p : Int)] (by simp) hzr) (by simp) rfl (down_len _).symm (by show _ = ((3 * (1 + p) + 2 : Nat) : Int); omega)
  have R2 : Hid (∀ (W : World) (n : Nat), n = W.heap.size → Calls Tryz.prog 19 #[.string ⟨cntL.toArray⟩, .slice (some ⟨n, 0, none⟩) 1 1, .int .i64 (f : Nat)] (W.alloc (.cells #[.int .i64 (1 + (p : Int))] 3)) fun e w' => Below (W.alloc (.cells #[.int .i64 (1 + (p : Int))] 3)).heap.size (W.alloc (.cells #[.int .i64 (1 + (p : Int))] 3)) w' ∧ ∃ oa oc, e = .returned (.tuple #[.agg #[.int .i64 8, .slice oa q oc, .int .i64 (f : Nat)], .int .i64 0, .int .i64 0]) ∧ q ≤ oc ∧ Hid (OutAt w' (.agg #[.int .i64 8, .slice oa q oc, .int .i64 (f : Nat)]) (8, (down (1 + p)).take q, f))) := fun W n hn =>
    run_at (by rw [cnt_check]) (by rw [show ((f : Nat) : Int).toNat = f by omega]; exact o2) (by omega) hokz (ints_new hn [1 + (p : Int)] (by simp) hzr) (by simp) rfl (by rw [List.length_take, down_len]; omega) rfl
  unfold cntL at R1 R2
  clear o1 o2 hO1 hO2 hwl hq hz hpk hokz hzr hk
  go_enter Tryz.func7, Tryz.ntmps7
  go_upto_region 8 with (first
    | (go_at_call 19; have _q := hb1; refine Calls.mono (R2.out _ _ (by simp)) ?_; rintro e w2 ⟨hb2, pa, pc, rfl, hpc, HO2⟩)
    | (go_at_call 19; refine Calls.mono (R1.out _ _ (by first | rfl | simp)) ?_; rintro e w1 ⟨hb1, oa, oc, rfl, hoc, HO1⟩)
    | (go_at_call 17; refine (hR _).mono ?_; rintro e wa ⟨rfl, hba⟩)
    | (go_at_call 23; have _q := hb1; refine (hP2 _).mono ?_; rintro e wp ⟨rfl, h9⟩; cases h9)
    | (go_at_call 23; refine (hP _).mono ?_; rintro e wp ⟨rfl, h9⟩; cases h9))
  have s2 := hb2.size
  have k0 : w2.cell? ⟨w1.heap.size, 0, none⟩ = some (.int .i64 0) := kept_two hb2 0
  have k1 : w2.cell? ⟨w1.heap.size, 1, none⟩ = some (.slice oa (1 + p) oc) := kept_two hb2 1
  have k2 : w2.cell? ⟨w1.heap.size, 2, none⟩ = some (.int .i64 (3 * (1 + (p : Int)) + 2)) := kept_two hb2 2
  have hlt : w1.heap.size < w2.heap.size := by simp at s2; omega
  have HI : Hid (∀ A, IntsC (w2.alloc A).drew (.slice oa (1 + p) oc) (down (1 + p))) := fun A => ((HO1.out.ints.below (below_two hb2)).below ((Below.refl _ _).alloc (Nat.le_refl _) _).drew)
  have HB : Hid (Below w.heap.size w w2) := hba.trans (((below_one hb1).trans ((below_two hb2).mono (below_one hb1).size)).mono hba.size)
  obtain ⟨a9, c9, e9, _, hcs⟩ := HO1.out.ints.below (below_two hb2)
  have h9 : (down (1 + p)).length = 1 + p := down_len _
  rcases hcs with h0 | ⟨ob, off, rfl, hob, hcs⟩
  · rw [show down (1 + p) = [] from h0] at h9; simp at h9; omega
  injection e9 with e91 e92 e93
  subst e91
  have HC : Hid (∀ j : Nat, j < 1 + p → w2.cell? ⟨ob, off + j, none⟩ = some (.int .i64 (1 + (p : Int) - j))) := fun j hj => by
    rw [hcs j (by rw [down_len]; exact hj), down_at _ _ hj]; simp
  clear hcs h9 e92 e93 hb1 hb2 s2 HO1 R1 R2 hP hP2 hR
  go_wp2
  go_loopw [16] (fun i wr => (∃ j : Nat, i = .int .i64 j ∧ j ≤ 1 + p) ∧ wr = w2.alloc (.cells #[.int .i64 8, .slice pa q pc, .int .i64 (f : Nat)] 39)) (fun i _ => 1 + p - (intOf i).toNat)
  case atStart => exact ⟨⟨0, rfl, Nat.zero_le _⟩, rfl⟩
  case round =>
    obtain ⟨⟨j, rfl, hj⟩, rfl⟩ := hrel
    by_cases hlt2 : j < 1 + p
    · have hc := HC.out j hlt2
      have hji : (j : Int) < 1 + (p : Int) := by omega
      go_wp2
      go_roundw
      case rel => exact ⟨⟨j + 1, by go_num, by omega⟩, by simp⟩
      case measure => simp [intOf]; omega
    · have hji : ¬ (j : Int) < 1 + (p : Int) := by omega
      by_cases hf0 : f = 0
      · subst hf0
        have hq0 : q = 0 := by have := HQ.out; simpa using this.symm
        subst hq0
        have HI0 : Hid (∀ A, IntsC (w2.alloc A).drew (.slice (some ⟨ob, off, none⟩) 0 oc) ((down (1 + p)).take 0)) := fun A => (HI.out A).take 0 (by omega)
        clear HC HI
        go_wp2
        go_region_with (go_at_call 20; go_loud (refine Calls.mono (is_at (r := true) (code := 8) (used := 0) (HO2.out.below ((Below.refl _ _).alloc (Nat.le_refl _) _).drew) (HI0.out _) rfl rfl (by simp)) ?_; rintro e w3 ⟨rfl, hb3⟩))
        all_goals go_wp2
        all_goals go_ret
        all_goals exact ⟨rfl, HB.out.trans ((below_one (below_undrew hb3)).mono HB.out.size)⟩
      · obtain ⟨g, rfl⟩ : ∃ g, f = g + 1 := ⟨f - 1, by omega⟩
        obtain ⟨d, hd⟩ : ∃ d : Nat, g / 3 = d := ⟨_, rfl⟩
        have hdi : (g : Int) / 3 = (d : Int) := by omega
        have hdl : d ≤ 60 := by omega
        by_cases hg : g % 3 = 2
        · have hgi : (g : Int) % 3 = 2 := by omega
          have hqm : q = d + 1 := by have := HQ.out; rw [if_neg (by omega), Nat.add_sub_cancel] at this; unfold wrt at this; rw [if_pos hg] at this; omega
          subst hqm
          have HI0 : Hid (∀ A, IntsC (w2.alloc A).drew (.slice (some ⟨ob, off, none⟩) (d + 1) oc) ((down (1 + p)).take (d + 1))) := fun A => (HI.out A).take (d + 1) (by omega)
          have HO3 : Hid (OutAt w2 (.agg #[.int .i64 8, .slice pa (d + 1) pc, .int .i64 ((g : Int) + 1)]) (8, (down (1 + p)).take (d + 1), g + 1)) := HO2.out
          clear HC HI HQ HO2 hg
          go_wp2
          go_region_with (go_at_call 20; go_loud (refine Calls.mono (is_at (r := true) (code := 8) (used := g + 1) (HO3.out.below ((Below.refl _ _).alloc (Nat.le_refl _) _).drew) (HI0.out _) rfl rfl (by simp)) ?_; rintro e w3 ⟨rfl, hb3⟩))
          all_goals go_wp2
          all_goals go_ret
          all_goals exact ⟨rfl, HB.out.trans ((below_one (below_undrew hb3)).mono HB.out.size)⟩
        · have hgi : ¬ (g : Int) % 3 = 2 := by omega
          have hqm : d = q := by have := HQ.out; rw [if_neg (by omega), Nat.add_sub_cancel] at this; unfold wrt at this; rw [if_neg hg] at this; omega
          subst hqm
          have HI0 : Hid (∀ A, IntsC (w2.alloc A).drew (.slice (some ⟨ob, off, none⟩) (d) oc) ((down (1 + p)).take (d))) := fun A => (HI.out A).take (d) (by omega)
          have HO3 : Hid (OutAt w2 (.agg #[.int .i64 8, .slice pa (d) pc, .int .i64 ((g : Int) + 1)]) (8, (down (1 + p)).take (d), g + 1)) := HO2.out
          clear HC HI HQ HO2 hg
          go_wp2
          go_region_with (go_at_call 20; go_loud (refine Calls.mono (is_at (r := true) (code := 8) (used := g + 1) (HO3.out.below ((Below.refl _ _).alloc (Nat.le_refl _) _).drew) (HI0.out _) rfl rfl (by simp)) ?_; rintro e w3 ⟨rfl, hb3⟩))
          all_goals go_wp2
          all_goals go_ret
          all_goals exact ⟨rfl, HB.out.trans ((below_one (below_undrew hb3)).mono HB.out.size)⟩

end Go.Proofs.YtklobognaldjpaaGreat

namespace Go.Proofs.YtklobognaldjpaaGreat
open Go.ChangeShapes Go.WideShapes Go.ChangeAt Go.RowKit

theorem row_own : ownKnob Tryz.prog.godebug = none := by kernel_rfl

set_option maxRecDepth 100000 in
theorem row_lifted (os : Os) (started : os.Started) (H : Type) (enc : TypeId × Value → H) :
    ReturnsInHanded {} Tryz.checked os 7 .any (Rows.countedSpec.pre6 enc Tryz.prog Tryz.f7 Rows.countedRow.domain false) (Rows.countedSpec.post enc Tryz.prog Tryz.f7 false true false false) := by
  refine returnsInHanded_of_change (C := Tryz.checked) row_own started (by kernel_rfl) Tryz.func7
    (ChangeSpec.witness6 (enc := enc) (C := Tryz.checked) false ⟨#[], #[.int .i64 0, .int .i64 0], []⟩ 8 (by kernel_rfl) (by kernel_rfl) (by kernel_rfl) (by kernel_rfl)) ?_
  intro W base args ds gs before hval0 hW hcnd _
  have hval : ∀ (j : Nat) t v, Tryz.f7.params[j]? = some t → args[j]? = some v → Value.okWide Tryz.prog W .any base t v := hval0
  have hW' := hW
  obtain ⟨p, q, hA0, hV, rfl, hfz, hnd⟩ := hW
  have hA : DataW.TrodAll enc Tryz.prog W 0 (fun _ => true) true Tryz.f7.params.toList args.toList ds p := hA0
  rw [Tryz.params7] at hA hval
  obtain ⟨v0, vs0, d0, ds0, p0, q0, hargs, rfl, rfl, h0, r0⟩ := trodAll_cons hA
  obtain ⟨v1, vs1, d1, ds1, p1, q1, rfl, rfl, rfl, h1, r1⟩ := trodAll_cons r0
  obtain ⟨rfl, rfl, rfl⟩ := trodAll_nil r1
  obtain rfl : args = #[v0, v1] := by cases args; simp_all
  obtain ⟨rfl, rfl⟩ := trodVars_none hV
  obtain ⟨a0, rfl, rfl, rfl, w0⟩ := open_int Tryz.underlying3 (hval 0 3 v0 rfl rfl) h0
  obtain ⟨a1, rfl, rfl, rfl, w1⟩ := open_int Tryz.underlying3 (hval 1 3 v1 rfl rfl) h1
  clear hA0 hval0
  obtain ⟨g1, g2⟩ := bounds_i64 w0
  obtain ⟨g3, g4⟩ := bounds_i64 w1
  simp only [List.append_nil] at hW'
  refine (Counted_any a0 a1 W g1 g2 g3 g4).mono fun e W' ⟨he, bel⟩ => ?_
  subst he
  exact ⟨_, rfl, _, _, _, [], _, [], hW', trodAll_mk1 (shut_bool Tryz.underlying4 _), (trodAll_cons_mk (shut_int Tryz.underlying3 w0) (trodAll_cons_mk (shut_int Tryz.underlying3 w1) trodAll_mk0)), rfl, bel.frame _, fun h => by cases h⟩

theorem row_over : Rows.countedRow.holds Tryz.pinned (OpenSpec.ofChange Rows.countedSpec) :=
  OpenClaim.holds_of_wide 7 Tryz.f7 rfl rfl rfl rfl rfl rfl rfl ⟨rfl, rfl, rfl, rfl, rfl⟩ rfl rfl rfl rfl rfl (by kernel_rfl) Tryz.func7 (by kernel_rfl)
    (of_decide_eq_true (by kernel_rfl)) (by unfold Func.isWrapper; first | (rw [if_pos (by decide +kernel)]; kernel_rfl) | (rw [if_neg (by decide +kernel)]; exact ⟨rfl, rfl⟩))
    (fun os started H enc _ => row_lifted os started H enc)

theorem counted_holds : Rows.CountedSaid :=
  row_over
#print axioms counted_holds

end Go.Proofs.YtklobognaldjpaaGreat
