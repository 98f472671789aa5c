/- The law Sums: an expression of which the statement knows the value. For every list of numbers (of bulk at most 1048576), lecternkeep.Sums returns true: an expression comes to what it comes to, written, assigned, given, asked. -/
import Derived.Test.YtklobognaldjpaaGreatCSm3
import Derived.Test.YtklobognaldjpaaGreatCSx7
import Derived.Test.YtklobognaldjpaaGreatCKp7
import Derived.Test.YtklobognaldjpaaGreatRows
import Derived.WalkKit
import Derived.ProofKit
import Derived.OpenShut
import Derived.JoinedCond
import Derived.ChangeOld
import Derived.ChangeSlices
import Derived.Below
namespace Go.Proofs.YtklobognaldjpaaGreat
open Go.RowKit

theorem undrew_below {W w2 : World} (h : Below W.drew.heap.size W.drew w2) : Below W.heap.size W w2 := ⟨h.os, h.tape, h.output, h.size, h.block⟩

theorem wr_text (t : List UInt8) : (⟨(wrTA ++ ([32] ++ (t ++ wrTB))).toArray⟩ : ByteArray) = (⟨#[98, 101, 103, 105, 110, 32, 119, 114, 105, 116, 101, 32]⟩ ++ ⟨t.toArray⟩ ++ ⟨#[32, 101, 110, 100, 46]⟩) := by
  have e : wrTA ++ ([32] ++ (t ++ wrTB)) = ([98, 101, 103, 105, 110, 32, 119, 114, 105, 116, 101, 32] ++ t) ++ [32, 101, 110, 100, 46] := by simp [wrTA, wrTB]
  rw [e, ← str_add, ← str_add]
theorem fn_text (t : List UInt8) : (⟨(fnTA ++ ([] ++ (t ++ fnTB))).toArray⟩ : ByteArray) = (⟨#[118, 97, 114, 32, 97, 59, 32, 102, 117, 110, 99, 32, 102, 40, 110, 41, 32, 98, 101, 103, 105, 110, 32, 102, 32, 58, 61, 32, 110, 32, 101, 110, 100, 59, 32, 98, 101, 103, 105, 110, 32, 97, 32, 58, 61, 32, 102, 40]⟩ ++ ⟨t.toArray⟩ ++ ⟨#[41, 59, 32, 119, 114, 105, 116, 101, 32, 97, 32, 101, 110, 100, 46]⟩) := by
  have e : fnTA ++ ([] ++ (t ++ fnTB)) = ([118, 97, 114, 32, 97, 59, 32, 102, 117, 110, 99, 32, 102, 40, 110, 41, 32, 98, 101, 103, 105, 110, 32, 102, 32, 58, 61, 32, 110, 32, 101, 110, 100, 59, 32, 98, 101, 103, 105, 110, 32, 97, 32, 58, 61, 32, 102, 40] ++ t) ++ [41, 59, 32, 119, 114, 105, 116, 101, 32, 97, 32, 101, 110, 100, 46] := by simp [fnTA, fnTB]
  rw [e, ← str_add, ← str_add]
theorem if_text (t : List UInt8) : (⟨(ifTA ++ ([32] ++ (t ++ ifTB))).toArray⟩ : ByteArray) = (⟨#[98, 101, 103, 105, 110, 32, 105, 102, 32]⟩ ++ ⟨t.toArray⟩ ++ ⟨#[32, 116, 104, 101, 110, 32, 119, 114, 105, 116, 101, 32, 49, 32, 101, 108, 115, 101, 32, 119, 114, 105, 116, 101, 32, 48, 32, 101, 110, 100, 46]⟩) := by
  have e : ifTA ++ ([32] ++ (t ++ ifTB)) = ([98, 101, 103, 105, 110, 32, 105, 102, 32] ++ t) ++ [32, 116, 104, 101, 110, 32, 119, 114, 105, 116, 101, 32, 49, 32, 101, 108, 115, 101, 32, 119, 114, 105, 116, 101, 32, 48, 32, 101, 110, 100, 46] := by simp [ifTA, ifTB]
  rw [e, ← str_add, ← str_add]

/-- A run of one of the three programs. -/
def OneRun (s : ByteArray) (fuel : Int) (x : Int) (u : Nat) : Prop := ∀ W : World, Calls Tryz.prog 19 #[.string s, .slice none 0 0, .int .i64 fuel] W fun e w' => Below W.heap.size W w' ∧ ∃ oa oc, e = .returned (.tuple #[.agg #[.int .i64 0, .slice oa 1 oc, .int .i64 (u : Nat)], .int .i64 0, .int .i64 0]) ∧ Hid (OutAt w' (.agg #[.int .i64 0, .slice oa 1 oc, .int .i64 (u : Nat)]) (0, [x], u))

theorem sums_runs {t : List UInt8} {v : Int} {d : Nat} (h : It t v d) (hl : t.length ≤ 400) :
    OneRun (⟨#[98, 101, 103, 105, 110, 32, 119, 114, 105, 116, 101, 32]⟩ ++ ⟨t.toArray⟩ ++ ⟨#[32, 101, 110, 100, 46]⟩) 1 v 1 ∧ OneRun (⟨#[118, 97, 114, 32, 97, 59, 32, 102, 117, 110, 99, 32, 102, 40, 110, 41, 32, 98, 101, 103, 105, 110, 32, 102, 32, 58, 61, 32, 110, 32, 101, 110, 100, 59, 32, 98, 101, 103, 105, 110, 32, 97, 32, 58, 61, 32, 102, 40]⟩ ++ ⟨t.toArray⟩ ++ ⟨#[41, 59, 32, 119, 114, 105, 116, 101, 32, 97, 32, 101, 110, 100, 46]⟩) 9 v 4 ∧ OneRun (⟨#[98, 101, 103, 105, 110, 32, 105, 102, 32]⟩ ++ ⟨t.toArray⟩ ++ ⟨#[32, 116, 104, 101, 110, 32, 119, 114, 105, 116, 101, 32, 49, 32, 101, 108, 115, 101, 32, 119, 114, 105, 116, 101, 32, 48, 32, 101, 110, 100, 46]⟩) 2 (truthV (v != 0)) 2 := by
  obtain ⟨ts, x, hfx, ht⟩ := h.fx
  have h9 := h.d9
  obtain ⟨a1, a2⟩ := wr_sums hfx (by omega) ht hl
  obtain ⟨b1, b2⟩ := fn_sums hfx (by omega) ht hl
  obtain ⟨c1, c2⟩ := if_sums hfx (by omega) ht hl
  refine ⟨?_, ?_, ?_⟩
  · rw [← wr_text]
    exact fun W => run_is (o := (0, [v], 1)) (by rw [a1]) a2 (by decide) rfl (IntsAt.nil W) (by simp)
  · rw [← fn_text]
    exact fun W => run_is (o := (0, [v], 4)) (by rw [b1]) b2 (by decide) rfl (IntsAt.nil W) (by simp)
  · rw [← if_text]
    exact fun W => run_is (o := (0, [truthV (v != 0)], 2)) (by rw [c1]) c2 (by decide) rfl (IntsAt.nil W) (by simp)

set_option maxRecDepth 1000000 in
set_option maxHeartbeats 4000000 in
theorem Sums_any (vr : Value) (zs : List Int) (w : World) (hin : IntsAt w vr zs) (hzl : zs.length ≤ 1048576) :
    Calls Tryz.prog 5 #[vr] w fun e w' => e = .returned (.bool true) ∧ Below w.heap.size w w' := by
  have hR := fun W => running_any W
  have hS := fun W (h : Below w.heap.size w W) => sum_any vr zs W (hin.over h) hzl
  unfold SumPost at hS
  clear hin
  go_enter Tryz.func5, Tryz.ntmps5
  go_upto_region 3 with (first
    | (go_at_call 17; refine (hR _).mono ?_; rintro e wa ⟨rfl, hba⟩)
    | (go_at_call 18; refine (hS _ hba).mono ?_; rintro e wb ⟨t, v, d, hit, rfl, hbb⟩))
  have HB0 : Hid (Below w.heap.size w wb) := hba.trans (hbb.mono hba.size)
  have hlen := hit.len
  have hlo := hit.lo
  have hhi := hit.hi
  obtain ⟨R1, R2, R3⟩ := sums_runs hit (by omega)
  have Rn1 : Hid _ := R1
  have Rn2 : Hid _ := R2
  have Rn3 : Hid _ := R3
  have HT : Hid (∀ (y : Int), -9223372036854775808 ≤ y → y ≤ 9223372036854775807 → ∀ (W : World) (n : Nat), n = W.heap.size → IntsC (W.alloc (.cells #[.int .i64 y] 3)) (.slice (some ⟨n, 0, none⟩) 1 1) [y]) := fun y h1 h2 W n hn => (ints_new hn [y] (by simp) (fun m => r_one h1 h2)).c (by simp)
  have x0 : (wb.alloc (.cells #[.string ⟨t.toArray⟩, .int .i64 v, .int .i64 (d : Nat)] 35)).cell? ⟨wb.heap.size, 0, none⟩ = some (.string ⟨t.toArray⟩) := by rw [World.cell?_alloc_new]; rfl
  have x1 : (wb.alloc (.cells #[.string ⟨t.toArray⟩, .int .i64 v, .int .i64 (d : Nat)] 35)).cell? ⟨wb.heap.size, 1, none⟩ = some (.int .i64 v) := by rw [World.cell?_alloc_new]; rfl
  have HBb : Hid (Below wb.heap.size wb (wb.alloc (.cells #[.string ⟨t.toArray⟩, .int .i64 v, .int .i64 (d : Nat)] 35))) := (Below.refl _ _).alloc (Nat.le_refl _) _
  have h400 : ¬ (t.length : Int) > 400 := by omega
  clear hit hba hbb hS hR R1 R2 R3
  unfold OneRun at Rn1 Rn2 Rn3
  go_upto_region 8 with (first
    | (go_at_call 19; have _q := hb2; refine Calls.mono (Rn3.out _) ?_; rintro e w3 ⟨hb3, qa, qc, rfl, HO3⟩; have q1 := kept_at (below_one hb3) z1; have HQ1 : Hid (OutAt w3 _ _) := HP1.out.below (below_one hb3); have HQ2 : Hid (OutAt w3 _ _) := HO2.out.below (below_one hb3); have r0 := kept_at (below_one hb3) o0; have r1 := kept_at (below_one hb3) o1; have r2 := kept_at (below_one hb3) o2; have s0 : w3.cell? ⟨w2.heap.size, 0, none⟩ = some (.int .i64 0) := kept_one hb3 0; have s1 : w3.cell? ⟨w2.heap.size, 1, none⟩ = some (.slice pa 1 pc) := kept_one hb3 1; have s2 : w3.cell? ⟨w2.heap.size, 2, none⟩ = some (.int .i64 4) := kept_one hb3 2; have l4 : wb.heap.size < w3.heap.size := lt_of_cell q1; have l5 : w1.heap.size < w3.heap.size := lt_of_cell r0; have l6 : w2.heap.size < w3.heap.size := lt_of_cell s0)
    | (go_at_call 19; have _q := hb1; refine Calls.mono (Rn2.out _) ?_; rintro e w2 ⟨hb2, pa, pc, rfl, HO2⟩; have z0 := kept_at (below_one hb2) y0; have z1 := kept_at (below_one hb2) y1; have HP1 : Hid (OutAt w2 _ _) := HO1.out.below (below_one hb2); have o0 : w2.cell? ⟨w1.heap.size, 0, none⟩ = some (.int .i64 0) := kept_one hb2 0; have o1 : w2.cell? ⟨w1.heap.size, 1, none⟩ = some (.slice oa 1 oc) := kept_one hb2 1; have o2 : w2.cell? ⟨w1.heap.size, 2, none⟩ = some (.int .i64 1) := kept_one hb2 2; have l2 : wb.heap.size < w2.heap.size := lt_of_cell z0; have l3 : w1.heap.size < w2.heap.size := lt_of_cell o0)
    | (go_at_call 19; refine Calls.mono (Rn1.out _) ?_; rintro e w1 ⟨hb1, oa, oc, rfl, HO1⟩; have y0 := kept_at hb1 x0; have y1 := kept_at hb1 x1; have l1 : wb.heap.size < w1.heap.size := lt_of_cell y0))
  have HB3 : Hid (Below w.heap.size w w3) := by
    have a1 := HBb.out.trans (hb1.mono (by simp))
    have a2 := a1.trans ((below_one hb2).mono a1.size)
    have a3 := a2.trans ((below_one hb3).mono a2.size)
    exact HB0.out.trans (a3.mono HB0.out.size)
  clear hb1 hb2 hb3 x0 x1 y0 y1 z0 z1 o0 o1 o2 HBb HB0 Rn1 Rn2 Rn3 HO1 HO2 HP1
  go_upto_region 10 with (first
    | (go_at_call 20; have _q := hb4; refine Calls.mono (is_at (r := true) (code := 0) (used := 4) (HU2.out.below ((Below.refl _ _).alloc (Nat.le_refl _) _)) (HT.out v (by omega) (by omega) _ _ (by simp)) rfl rfl (by simp)) ?_; rintro e w5 ⟨rfl, hb5⟩; have c1 := kept_at (below_one hb5) m1; have e0 := kept_at (below_one hb5) k0; have e1 := kept_at (below_one hb5) k1; have e2 := kept_at (below_one hb5) k2; have HV3 : Hid (OutAt w5 _ _) := HU3.out.below (below_one hb5))
    | (go_at_call 20; refine Calls.mono (is_at (r := true) (code := 0) (used := 1) (HQ1.out.below (up_two _ _ _)) (HT.out v (by omega) (by omega) _ _ (by simp)) rfl rfl (by simp)) ?_; rintro e w4 ⟨rfl, hb4⟩; have m1 := kept_at (below_two hb4) q1; have n0 := kept_at (below_two hb4) s0; have n1 := kept_at (below_two hb4) s1; have n2 := kept_at (below_two hb4) s2; have k0 : w4.cell? ⟨w3.heap.size, 0, none⟩ = some (.int .i64 0) := kept_two hb4 0; have k1 : w4.cell? ⟨w3.heap.size, 1, none⟩ = some (.slice qa 1 qc) := kept_two hb4 1; have k2 : w4.cell? ⟨w3.heap.size, 2, none⟩ = some (.int .i64 2) := kept_two hb4 2; have HU2 : Hid (OutAt w4 _ _) := HQ2.out.below (below_two hb4); have HU3 : Hid (OutAt w4 _ _) := HO3.out.below (below_two hb4); have l7 : wb.heap.size < w4.heap.size := lt_of_cell m1; have l8 : w2.heap.size < w4.heap.size := lt_of_cell n0; have l9 : w3.heap.size < w4.heap.size := lt_of_cell k0))
  have HB5 : Hid (Below w.heap.size w w5) := by
    have a1 := HB3.out.trans ((below_two hb4).mono HB3.out.size)
    exact a1.trans ((below_one hb5).mono a1.size)
  clear hb4 hb5 m1 n0 n1 n2 k0 k1 k2 q1 r0 r1 r2 s0 s1 s2 HU2 HU3 HQ1 HQ2 HB3 HO3 l1 l2 l3 l4 l5 l6 l7 l8 l9
  have l10 : w3.heap.size < w5.heap.size := lt_of_cell e0
  have l11 : wb.heap.size < w5.heap.size := lt_of_cell c1
  by_cases hv : v = 0
  · have e9 : truthV (v != 0) = 0 := by rw [hv]; rfl
    rw [e9] at HV3
    subst hv
    go_region_with (first
      | (go_at_call 21; refine (truth_any false _).mono ?_; rintro e w6 ⟨rfl, h9⟩; cases h9)
      | (go_at_call 20; refine Calls.mono (is_at (r := true) (code := 0) (used := 2) (HV3.out.below ((Below.refl _ _).alloc (Nat.le_refl _) _).drew) (HT.out 0 (by omega) (by omega) w5 _ rfl) rfl rfl (by simp)) ?_; rintro e w7 ⟨rfl, hb7⟩))
    all_goals go_wp2
    all_goals go_ret
    all_goals exact ⟨rfl, HB5.out.trans ((below_one (undrew_below hb7)).mono HB5.out.size)⟩
  · have hvb : (v != 0) = true := by simp [hv]
    have e9 : truthV (v != 0) = 1 := by rw [hvb]; rfl
    rw [e9] at HV3
    go_region_with (first
      | (go_at_call 21; refine (truth_any true _).mono ?_; rintro e w6 ⟨rfl, h9⟩; cases h9)
      | (go_at_call 20; refine Calls.mono (is_at (r := true) (code := 0) (used := 2) (HV3.out.below ((Below.refl _ _).alloc (Nat.le_refl _) _).drew) (HT.out 1 (by omega) (by omega) w5 _ rfl) rfl rfl (by simp)) ?_; rintro e w7 ⟨rfl, hb7⟩))
    all_goals go_wp2
    all_goals go_ret
    all_goals exact ⟨rfl, HB5.out.trans ((below_one (undrew_below hb7)).mono HB5.out.size)⟩

end Go.Proofs.YtklobognaldjpaaGreat

namespace Go.Proofs.YtklobognaldjpaaGreat
open Go.ChangeShapes Go.WideShapes Go.ChangeAt Go.RowKit

theorem row_own : ownKnob Tryz.prog.godebug = none := by kernel_rfl
theorem row_laidOut : laidOutB Tryz.prog = true := by kernel_rfl

theorem bulk_one {H : Type} (d : DataW H) : 1 ≤ Rows.uptoBulk d := by
  cases d with
  | lit l => cases l <;> simp [Rows.uptoBulk]
  | nil => simp [Rows.uptoBulk]
  | ptr d => simp [Rows.uptoBulk]
  | slice e s => simp [Rows.uptoBulk]
  | agg p => simp [Rows.uptoBulk]
  | iface t d => simp [Rows.uptoBulk]
  | map es => simp [Rows.uptoBulk]
  | held h => simp [Rows.uptoBulk]

theorem bulk_len {H : Type} : ∀ l : List (DataW H), l.length ≤ Rows.uptoBulkAll l
  | [] => by simp [Rows.uptoBulkAll]
  | x :: r => by
    have h1 := bulk_one x
    have h2 := bulk_len r
    simp only [Rows.uptoBulkAll, List.length_cons]
    omega

theorem bulk_slice {H : Type} {e s : List (DataW H)} (h : Rows.uptoSmall H [.slice e s] = true) : e.length + s.length ≤ 1048576 := by
  have h0 : Rows.uptoBulkAll [DataW.slice e s] ≤ 1048576 := of_decide_eq_true h
  have h1 := bulk_len e
  have h2 := bulk_len s
  simp only [Rows.uptoBulkAll, Rows.uptoBulk] at h0
  omega

/-- A list of numbers that came in. -/
theorem ints_came {W : World} {x : Addr} {len cap : Nat} {zs : List Int} (hl : len ≤ cap) (hm : cap ≤ maxLen) (hz : zs.length = cap) (hcell : ∀ i, i < zs.length → W.cell? (x.add i) = some (.int .i64 (zs.getD i 0))) (hwf : ∀ n ∈ zs, (Lit.int .i64 n).wf = true) :
    IntsAt W (.slice (some x) len cap) (zs.take len) := by
  have hlen : (zs.take len).length = len := by rw [List.length_take]; omega
  refine ⟨some x, cap, by rw [hlen], by omega, fun n hn => bounds_i64 (hwf n (List.mem_of_mem_take hn)), ?_⟩
  by_cases h0 : len = 0
  · exact .inl (by rw [h0]; rfl)
  · obtain ⟨b, off, spot⟩ := x
    have hc := hcell 0 (by omega)
    have hspot : spot = none := by simpa [Addr.add] using World.cell?_spot hc
    subst hspot
    have hcells : ∀ i, i < (zs.take len).length → W.cell? ⟨b, off + i, none⟩ = some (.int .i64 ((zs.take len).getD i 0)) := by
      intro i hi
      rw [hlen] at hi
      have h1 := hcell i (by omega)
      have e : (zs.take len).getD i 0 = zs.getD i 0 := by simp [List.getD, hi]
      rw [e]
      cases i with
      | zero => simpa [Addr.add] using h1
      | succ i => simpa [Addr.add] using h1
    refine .inr ⟨b, off, rfl, ?_, hcells⟩
    exact lt_of_cell (hcells 0 (by omega))

theorem ints_param {H : Type} {enc : TypeId × Value → H} {W : World} {a : Option Addr} {len cap : Nat} {d : DataW H} {p : List MemPlace} (h : DataW.Trod enc Tryz.prog W 0 (fun _ => true) true 23 (.slice a len cap) d p) :
    ∃ ys, IntsAt W (.slice a len cap) ys ∧ (ys = [] ∨ ∃ e s, d = .slice e s ∧ ys.length ≤ e.length + s.length) := by
  obtain ⟨fuel, hf⟩ := h
  rcases open_ints Tryz.underlying23 Tryz.underlying3 (by kernel_rfl) hf with ⟨hcs, _⟩ | ⟨x, l, c, zs, hcs, _, hl, hm, hz, hx, hcell, hwz⟩
  · simp [Value.cells] at hcs
    obtain ⟨rfl, rfl, rfl⟩ := hcs
    exact ⟨[], IntsAt.nil W, .inl rfl⟩
  · simp [Value.cells] at hcs
    obtain ⟨rfl, rfl, rfl⟩ := hcs
    injection hx with hx1 _
    refine ⟨zs.take len, ints_came hl hm (by simpa using hz) hcell hwz, .inr ⟨_, _, hx1, ?_⟩⟩
    simp [lits]

set_option maxRecDepth 100000 in
theorem row_contract (H : Type) (enc : TypeId × Value → H) (W : World) (base : Nat) (args : Array Value) (ds gs : List (DataW H)) (before : List MemPlace)
    (hval : ∀ (j : Nat) t v, Tryz.f5.params[j]? = some t → args[j]? = some v → Value.okWide Tryz.prog W .any base t v)
    (hW : DataW.Whole enc Tryz.prog Tryz.f5.params.toList Rows.sumsSpec.vars false W args.toList ds gs before) (hk : Rows.uptoSmall H (ds ++ gs) = true) :
    Calls Tryz.prog 5 args W fun e W' => ∃ v, e = .returned v ∧ Rows.sumsSpec.post enc Tryz.prog Tryz.f5 false true false false W args v W' := by
  have hW' := hW
  obtain ⟨p, q, hA0, hV, rfl, hfz, hnd⟩ := hW
  have hA : DataW.TrodAll enc Tryz.prog W 0 (fun _ => true) true Tryz.f5.params.toList args.toList ds p := hA0
  rw [Tryz.params5] at hA hval
  obtain ⟨v0, vs0, d0, ds0, p0, q0, hargs, rfl, rfl, h0, r0⟩ := trodAll_cons hA
  obtain ⟨rfl, rfl, rfl⟩ := trodAll_nil r0
  obtain rfl : args = #[v0] := by cases args; simp_all
  obtain ⟨rfl, rfl⟩ := trodVars_none hV
  obtain ⟨a0, len0, cap0, rfl⟩ := okWide_slice Tryz.underlying23 (hval 0 23 v0 rfl rfl)
  have lt0 : ∀ x ∈ p0, x.block < W.heap.size := by obtain ⟨m, hm⟩ := h0; exact DataW.trod_lt m _ _ _ hm
  obtain ⟨y0, i0, z0⟩ := ints_param h0
  clear hA0
  simp only [List.append_nil] at hk
  have hl : y0.length ≤ 1048576 := by
    rcases z0 with rfl | ⟨e, s, rfl, hl⟩
    · simp
    · have := bulk_slice hk; omega
  refine (Sums_any (.slice a0 len0 cap0) y0 W i0 hl).mono fun e W' ⟨he, bel⟩ => ?_
  subst he
  exact ⟨_, rfl, _, _, _, [], _, [], hW', trodAll_mk1 (shut_bool Tryz.underlying4 _), (trodAll_cons_mk (Below.trod row_laidOut (by kernel_rfl) (of_decide_eq_true (by kernel_rfl)) h0 bel lt0) trodAll_mk0), rfl, bel.frame _, fun h => by cases h⟩

set_option maxRecDepth 100000 in
theorem row_lifted (os : Os) (started : os.Started) (H : Type) (enc : TypeId × Value → H) (F : Stop.Interp) :
    ReturnsInHanded {} Tryz.checked os 5 .any ((Rows.OpenSpec.upto Rows.sumsSpec).pre6 enc Tryz.prog Tryz.f5 Rows.sumsUptoRow.domain false) (((Rows.OpenSpec.upto Rows.sumsSpec).at F).post enc Tryz.prog Tryz.f5 false true false false) := by
  refine returnsInHanded_of_cond (C := Tryz.checked) (s := Rows.OpenSpec.upto Rows.sumsSpec) (k := Rows.uptoSmall) rfl row_own started (by kernel_rfl) Tryz.func5
    (OpenSpec.witness (enc := enc) (C := Tryz.checked) (s := Rows.OpenSpec.upto Rows.sumsSpec) (k := Rows.uptoSmall) rfl false ⟨#[], #[.slice none 0 0], []⟩ 8 (by kernel_rfl) (by kernel_rfl) (by kernel_rfl)
      (x := ([.nil], [], [])) (by kernel_rfl) rfl (by kernel_rfl)) ?_
  intro W base args ds gs before hval hW _ hk _
  exact row_contract H enc W base args ds gs before hval hW hk

theorem row_over : Rows.sumsUptoRow.holds Tryz.pinned (Rows.OpenSpec.upto Rows.sumsSpec) :=
  OpenClaim.holds_of_cond 5 Tryz.f5 rfl rfl rfl rfl rfl rfl rfl ⟨rfl, rfl, rfl, rfl, rfl⟩ rfl rfl rfl rfl rfl (by kernel_rfl) Tryz.func5 (by kernel_rfl)
    (of_decide_eq_true (by kernel_rfl)) (by unfold Func.isWrapper; first | (rw [if_pos (by decide +kernel)]; kernel_rfl) | (rw [if_neg (by decide +kernel)]; exact ⟨rfl, rfl⟩))
    (fun os started H enc _ F => row_lifted os started H enc F)

theorem sums_upto : Rows.SumsUptoSaid :=
  row_over
#print axioms sums_upto

end Go.Proofs.YtklobognaldjpaaGreat
