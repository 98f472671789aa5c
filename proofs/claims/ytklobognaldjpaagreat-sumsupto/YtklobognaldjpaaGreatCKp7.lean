/- What package lecternkeep does: sameInts, is. What package lecternkeep does: running. -/
import Derived.Test.YtklobognaldjpaaGreatCRn2
import Derived.Test.YtklobognaldjpaaGreatCKp2
import Derived.Test.YtklobognaldjpaaGreatCSx7
namespace Go.Proofs.YtklobognaldjpaaGreat
open Go.RowKit

theorem below_drewN {B : Nat} {a w : World} (n : Nat) (h : Below B a w) : Below B a (w.drewN n) := ⟨h.os, h.tape, h.output, h.size, h.block⟩

/-- A list of numbers in memory, whatever they are. -/
def IntsC (w : World) (v : Value) (zs : List Int) : Prop :=
  ∃ a cap, v = .slice a zs.length cap ∧ zs.length ≤ 1000000 ∧
    (zs = [] ∨ ∃ b off, a = some ⟨b, off, none⟩ ∧ b < w.heap.size ∧ ∀ i, i < zs.length → w.cell? ⟨b, off + i, none⟩ = some (.int .i64 (zs.getD i 0)))

theorem IntsC.below {w w' : World} {v : Value} {zs : List Int} (h : IntsC w v zs) (hb : Below w.heap.size w w') : IntsC w' v zs := by
  obtain ⟨a, cap, rfl, h1, h3⟩ := h
  refine ⟨a, cap, rfl, h1, ?_⟩
  rcases h3 with h3 | ⟨b, off, rfl, hl, h3⟩
  · exact .inl h3
  · refine .inr ⟨b, off, rfl, Nat.lt_of_lt_of_le hl hb.size, fun i hi => ?_⟩
    rw [hb.cell (p := ⟨b, off + i, none⟩) hl]
    exact h3 i hi

theorem IntsC.nil (w : World) : IntsC w (.slice none 0 0) [] := ⟨none, 0, rfl, by simp, .inl rfl⟩

/-- A row that the call made. -/
theorem IntsC.own {w : World} {base : Nat} {a : Option Addr} {cap : Nat} {zs : List Int} (h : w.ownsRow base 3 1 (.slice a zs.length cap) zs.length (zs.map (.int .i64))) (hl : zs.length ≤ 1000000) : IntsC w (.slice a zs.length cap) zs := by
  refine ⟨a, cap, rfl, hl, ?_⟩
  by_cases h0 : zs = []
  · exact .inl h0
  · obtain ⟨tb, cap2, e, hb, hlt⟩ := h.form (List.length_pos_iff.2 h0)
    cases e
    refine .inr ⟨tb, 0, rfl, hlt, fun i hi => ?_⟩
    have := h.cellAt i (by simpa using hi)
    rw [Nat.zero_add, this, List.getElem?_map, List.getElem?_eq_getElem hi]
    simp [List.getD, hi]

set_option maxRecDepth 1000000 in
set_option maxHeartbeats 2000000 in
theorem sameInts_any (va vb : Value) (xs ys : List Int) (w : World) (hx : IntsC w va xs) (hy : IntsC w vb ys) :
    Calls Tryz.prog 36 #[va, vb] w fun e w' => e = .returned (.bool (decide (xs = ys))) ∧ Below w.heap.size w w' := by
  obtain ⟨a, ca, rfl, hxl, hxc⟩ := hx
  obtain ⟨b, cb, rfl, hyl, hyc⟩ := hy
  have HX : Hid _ := hxc
  have HY : Hid _ := hyc
  clear hxc hyc
  by_cases hlen : xs.length = ys.length
  · have hl2 : (xs.length : Int) = ys.length := by omega
    go_enter Tryz.func36, Tryz.ntmps36
    go_wp2
    go_loopw [5] (fun i wr => ∃ j : Nat, i = .int .i64 j ∧ j ≤ xs.length ∧ Hid (xs.take j = ys.take j) ∧ Below w.heap.size w wr) (fun i _ => xs.length - (intOf i).toNat)
    case atStart => exact ⟨0, rfl, Nat.zero_le _, rfl, Below.refl _ _⟩
    case round =>
      obtain ⟨j, rfl, hj, HT, hB⟩ := hrel
      by_cases hlt : j < xs.length
      · rcases HX.out with h0 | ⟨bx, ox, rfl, hbx, hcx⟩
        · rw [h0] at hlt; simp at hlt
        rcases HY.out with h0 | ⟨by_, oy, rfl, hby, hcy⟩
        · rw [h0] at hlen; simp at hlen; rw [hlen] at hlt; simp at hlt
        have hlt2 : j < ys.length := by omega
        have c1 : wr.cell? ⟨bx, ox + j, none⟩ = some (.int .i64 xs[j]) := by
          rw [hB.cell (p := ⟨bx, ox + j, none⟩) hbx, hcx j hlt]; simp [List.getD, hlt]
        have c2 : wr.cell? ⟨by_, oy + j, none⟩ = some (.int .i64 ys[j]) := by
          rw [hB.cell (p := ⟨by_, oy + j, none⟩) hby, hcy j hlt2]; simp [List.getD, hlt2]
        have HS : Hid (xs[j] = ys[j] → xs.take (j + 1) = ys.take (j + 1)) := fun e => by
          have e1 : xs.take (j + 1) = xs.take j ++ [xs[j]] := by rw [List.take_add_one, List.getElem?_eq_getElem hlt]; rfl
          have e2 : ys.take (j + 1) = ys.take j ++ [ys[j]] := by rw [List.take_add_one, List.getElem?_eq_getElem hlt2]; rfl
          rw [e1, e2, HT.out, e]
        have HN : Hid (xs[j] ≠ ys[j] → xs ≠ ys) := fun h e => h (by subst e; rfl)
        have hjl : (j : Int) < (xs.length : Int) := by omega
        have hjl2 : (j : Int) < (ys.length : Int) := by omega
        clear hcx hcy
        generalize xs[j] = x at *
        generalize ys[j] = y at *
        by_cases he : x = y
        · have HU : Hid (xs.take (j + 1) = ys.take (j + 1)) := HS.out he
          clear HS HN
          subst he
          go_wp2
          go_quiet (fail)
          go_wp2
          go_roundw
          case rel => exact ⟨j + 1, by go_num, by omega, HU.out, below_drewN _ hB⟩
          case measure => simp [intOf]; omega
        · go_wp2
          go_quiet (fail)
          go_wp2
          go_ret
          exact ⟨congrArg (fun b => Ending.returned (.bool b)) (decide_eq_false (HN.out he)).symm, below_drewN _ hB⟩
      · have ej : j = xs.length := by omega
        subst ej
        have hq : ys.take xs.length = ys := by rw [hlen, List.take_length]
        have HE : Hid (xs = ys) := by
          have := HT.out
          rw [List.take_length, hq] at this
          exact this
        go_wp2
        go_ret
        exact ⟨congrArg (fun b => Ending.returned (.bool b)) (decide_eq_true HE.out).symm, hB⟩
  · have hl2 : ¬ (xs.length : Int) = ys.length := by omega
    have HN : Hid (xs ≠ ys) := fun e => hlen (by rw [e])
    go_enter Tryz.func36, Tryz.ntmps36
    go_wp2
    go_ret
    exact ⟨congrArg (fun b => Ending.returned (.bool b)) (decide_eq_false HN.out).symm, Below.refl _ _⟩

/-- An outcome in memory. -/
def OutAt (w : World) (v : Value) (o : Nat × List Int × Nat) : Prop := ∃ u, v = .agg #[.int .i64 (o.1 : Nat), u, .int .i64 (o.2.2 : Nat)] ∧ IntsC w u o.2.1

theorem OutAt.below {w w' : World} {v : Value} {o : Nat × List Int × Nat} (h : OutAt w v o) (hb : Below w.heap.size w w') : OutAt w' v o := by
  obtain ⟨u, rfl, h⟩ := h
  exact ⟨u, rfl, h.below hb⟩

set_option maxRecDepth 1000000 in
set_option maxHeartbeats 2000000 in
theorem is_any (vo vb : Value) (o : Nat × List Int × Nat) (code used : Nat) (ys : List Int) (w : World) (ho : OutAt w vo o) (hy : IntsC w vb ys) :
    Calls Tryz.prog 20 #[vo, .int .i64 (code : Nat), .int .i64 (used : Nat), vb] w fun e w' => e = .returned (.bool (decide (o.2.1 = ys ∧ o.1 = code ∧ o.2.2 = used))) ∧ Below w.heap.size w w' := by
  obtain ⟨u, rfl, hu⟩ := ho
  obtain ⟨oc, out, ou⟩ := o
  dsimp only at hu ⊢
  have H1 : Hid (∀ A, Calls Tryz.prog 36 #[u, vb] (w.alloc A) fun e w' => e = .returned (.bool (decide (out = ys))) ∧ Below (w.alloc A).heap.size (w.alloc A) w') := fun A =>
    sameInts_any u vb out ys (w.alloc A) (hu.below ((Below.refl _ _).alloc (Nat.le_refl _) _)) (hy.below ((Below.refl _ _).alloc (Nat.le_refl _) _))
  obtain ⟨a, ca, rfl, _⟩ := hu
  obtain ⟨b, cb, rfl, _⟩ := hy
  have q0 : ∀ k, (w.alloc (.cells #[.int .i64 (oc : Nat), .slice a out.length ca, .int .i64 (ou : Nat)] 39)).cell? ⟨w.heap.size, k, none⟩ = #[Value.int .i64 (oc : Nat), .slice a out.length ca, .int .i64 (ou : Nat)][k]? := fun k => World.cell?_alloc_new w _ _ k
  have hwz : w.heap.size < (w.alloc (.cells #[.int .i64 (oc : Nat), .slice a out.length ca, .int .i64 (ou : Nat)] 39)).heap.size := by simp
  have HK : Hid (∀ w2, Below (w.alloc (.cells #[.int .i64 (oc : Nat), .slice a out.length ca, .int .i64 (ou : Nat)] 39)).heap.size (w.alloc (.cells #[.int .i64 (oc : Nat), .slice a out.length ca, .int .i64 (ou : Nat)] 39)) w2 → Below w.heap.size w w2 ∧ ∀ k, w2.cell? ⟨w.heap.size, k, none⟩ = #[Value.int .i64 (oc : Nat), .slice a out.length ca, .int .i64 (ou : Nat)][k]?) := fun w2 h =>
    ⟨((Below.refl _ _).alloc (Nat.le_refl _) _).trans (h.mono (Nat.le_of_lt hwz)), fun k => (h.cell (p := ⟨w.heap.size, k, none⟩) hwz).trans (q0 k)⟩
  have HD : Hid (decide (out = ys ∧ oc = code ∧ ou = used) = (decide (out = ys) && (decide ((oc : Int) = (code : Int)) && decide ((ou : Int) = (used : Int))))) := by
    show _ = _
    rw [Bool.decide_and, Bool.decide_and]
    congr 2
    · exact decide_eq_decide.2 (by omega)
    · exact decide_eq_decide.2 (by omega)
  clear q0 hwz
  generalize decide (out = ys ∧ oc = code ∧ ou = used) = r at *
  generalize decide (out = ys) = d at *
  cases d
  · have HR : Hid (r = false) := by show _ = _; rw [HD.out]; rfl
    clear HD
    go_enter Tryz.func20, Tryz.ntmps20
    go_wp2_with (go_at_call 36; refine Calls.mono (H1.out _) ?_; rintro e w2 ⟨rfl, hb2⟩; obtain ⟨hB, hc⟩ := HK.out _ hb2; have c0 : w2.cell? ⟨w.heap.size, 0, none⟩ = some (.int .i64 (oc : Nat)) := hc 0; have c2 : w2.cell? ⟨w.heap.size, 2, none⟩ = some (.int .i64 (ou : Nat)) := hc 2; clear hc)
    go_ret
    exact ⟨congrArg (fun b => Ending.returned (.bool b)) HR.out.symm, hB⟩
  · by_cases h1 : oc = code
    · subst h1
      have HR : Hid (r = ((ou : Int) == (used : Int))) := by show _ = _; rw [HD.out, decide_eq_true rfl]; simp; rfl
      clear HD
      go_enter Tryz.func20, Tryz.ntmps20
      go_wp2_with (go_at_call 36; refine Calls.mono (H1.out _) ?_; rintro e w2 ⟨rfl, hb2⟩; obtain ⟨hB, hc⟩ := HK.out _ hb2; have c0 : w2.cell? ⟨w.heap.size, 0, none⟩ = some (.int .i64 (oc : Nat)) := hc 0; have c2 : w2.cell? ⟨w.heap.size, 2, none⟩ = some (.int .i64 (ou : Nat)) := hc 2; clear hc)
      go_ret
      exact ⟨congrArg (fun b => Ending.returned (.bool b)) HR.out.symm, hB⟩
    · have h2 : ¬ (oc : Int) = (code : Int) := by omega
      have h3 : ((oc : Int) == (code : Int)) = false := by simp; omega
      have HR : Hid (r = false) := by show _ = _; rw [HD.out, decide_eq_false h2]; rfl
      clear HD
      go_enter Tryz.func20, Tryz.ntmps20
      go_wp2_with (go_at_call 36; refine Calls.mono (H1.out _) ?_; rintro e w2 ⟨rfl, hb2⟩; obtain ⟨hB, hc⟩ := HK.out _ hb2; have c0 : w2.cell? ⟨w.heap.size, 0, none⟩ = some (.int .i64 (oc : Nat)) := hc 0; have c2 : w2.cell? ⟨w.heap.size, 2, none⟩ = some (.int .i64 (ou : Nat)) := hc 2; clear hc)
      go_ret
      exact ⟨congrArg (fun b => Ending.returned (.bool b)) HR.out.symm, hB⟩

/-- is, with numbers in whatever form. -/
theorem is_at {vo vb : Value} {o : Nat × List Int × Nat} {code used : Nat} {ys : List Int} {w : World} {r : Bool} {c u : Int} (ho : OutAt w vo o) (hy : IntsC w vb ys) (hc : c = code) (hu : u = used) (hr : decide (o.2.1 = ys ∧ o.1 = code ∧ o.2.2 = used) = r) :
    Calls Tryz.prog 20 #[vo, .int .i64 c, .int .i64 u, vb] w fun e w' => e = .returned (.bool r) ∧ Below w.heap.size w w' := by
  subst hc hu hr
  exact is_any vo vb o code used ys w ho hy

theorem IntsAt.c {w : World} {v : Value} {zs : List Int} (h : IntsAt w v zs) (hl : zs.length ≤ 1000000) : IntsC w v zs := by
  obtain ⟨a, cap, rfl, _, _, h3⟩ := h
  exact ⟨a, cap, rfl, hl, h3⟩

theorem IntsAt.nil (w : World) : IntsAt w (.slice none 0 0) [] := ⟨none, 0, rfl, by simp, by simp, .inl rfl⟩

/-- A list that was just written out. -/
theorem ints_new {W : World} {n : Nat} (hn : n = W.heap.size) (zs : List Int) (hl : zs.length ≤ 1000) (hz : ∀ n ∈ zs, -9223372036854775808 ≤ n ∧ n ≤ 9223372036854775807) :
    IntsAt (W.alloc (.cells (zs.map (Value.int .i64)).toArray 3)) (.slice (some ⟨n, 0, none⟩) zs.length zs.length) zs := by
  subst hn
  refine ⟨_, _, rfl, by unfold maxLen; omega, hz, .inr ⟨_, 0, rfl, by simp, fun i hi => ?_⟩⟩
  rw [World.cell?_alloc_new W _ _ (0 + i), Nat.zero_add]
  simp [List.getD, hi]

/-- What Run answers of a text that may be run. -/
theorem run_is {l : List UInt8} {v : Value} {zs : List Int} {fuel : Int} {w : World} {o : Nat × List Int × Nat} (hc : (checkP l).1 = 0) (ho : outcome (treeOf l) zs fuel.toNat = o) (hf : 0 ≤ fuel ∧ fuel ≤ 3000) (hok : okIn zs = true) (hin : IntsAt w v zs) (hl : zs.length ≤ 35184372088831) :
    Calls Tryz.prog 19 #[.string ⟨l.toArray⟩, v, .int .i64 fuel] w fun e w' => Below w.heap.size w w' ∧ ∃ oa oc, e = .returned (.tuple #[.agg #[.int .i64 (o.1 : Nat), .slice oa o.2.1.length oc, .int .i64 (o.2.2 : Nat)], .int .i64 0, .int .i64 0]) ∧ OutAt w' (.agg #[.int .i64 (o.1 : Nat), .slice oa o.2.1.length oc, .int .i64 (o.2.2 : Nat)]) o := by
  refine (run_any ⟨l.toArray⟩ v zs fuel w hin hl).mono ?_
  rintro e w' ⟨hb, h⟩
  have el : (⟨l.toArray⟩ : ByteArray).data.toList = l := rfl
  rw [el] at h
  rcases h with h | h | h | h
  · exact absurd hc h.1
  · exact absurd hf h.2.1
  · rw [hok] at h; cases h.2.2.1
  · obtain ⟨_, _, _, oa, oc, he, how, h60⟩ := h
    rw [ho] at he how h60
    exact ⟨hb, oa, oc, he, _, rfl, IntsC.own how (by omega)⟩

end Go.Proofs.YtklobognaldjpaaGreat

namespace Go.Proofs.YtklobognaldjpaaGreat
open Go.RowKit

theorem r_one {n m : Int} (h1 : -9223372036854775808 ≤ n) (h2 : n ≤ 9223372036854775807) : m ∈ [n] → -9223372036854775808 ≤ m ∧ m ≤ 9223372036854775807 := by
  intro h
  simp at h
  subst h
  exact ⟨h1, h2⟩

theorem r_941 : ∀ m ∈ [(9 : Int), 4, 1], -9223372036854775808 ≤ m ∧ m ≤ 9223372036854775807 := by decide

theorem below_one {W w2 : World} {A : Obj} (h : Below (W.alloc A).heap.size (W.alloc A) w2) : Below W.heap.size W w2 :=
  ((Below.refl _ _).alloc (Nat.le_refl _) _).trans (h.mono (by simp))

theorem below_two {W w2 : World} {A B : Obj} (h : Below ((W.alloc A).alloc B).heap.size ((W.alloc A).alloc B) w2) : Below W.heap.size W w2 :=
  below_one (below_one h)

theorem kept_one {W w2 : World} {xs : Array Value} {t : TypeId} (h : Below (W.alloc (.cells xs t)).heap.size (W.alloc (.cells xs t)) w2) (k : Nat) : w2.cell? ⟨W.heap.size, k, none⟩ = xs[k]? := by
  rw [h.cell (p := ⟨W.heap.size, k, none⟩) (by simp)]
  exact World.cell?_alloc_new W _ _ k

theorem kept_two {W w2 : World} {xs : Array Value} {t : TypeId} {B : Obj} (h : Below ((W.alloc (.cells xs t)).alloc B).heap.size ((W.alloc (.cells xs t)).alloc B) w2) (k : Nat) : w2.cell? ⟨W.heap.size, k, none⟩ = xs[k]? :=
  kept_one (below_one h) k

theorem up_two (W : World) (A B : Obj) : Below W.heap.size W ((W.alloc A).alloc B) := ((Below.refl _ _).alloc (Nat.le_refl _) _).alloc (by simp) _

set_option maxRecDepth 1000000 in
set_option maxHeartbeats 2000000 in
theorem running_any (w : World) : Calls Tryz.prog 17 #[] w fun e w' => e = .returned (.bool true) ∧ Below w.heap.size w w' := by
  have R1 : Hid (∀ (W : World) (n : Nat), n = W.heap.size → Calls Tryz.prog 19 #[.string ⟨sqL.toArray⟩, .slice (some ⟨n, 0, none⟩) 1 1, .int .i64 20] (W.alloc (.cells #[.int .i64 3] 3)) fun e w' => Below (W.alloc (.cells #[.int .i64 3] 3)).heap.size (W.alloc (.cells #[.int .i64 3] 3)) w' ∧ ∃ oa oc, e = .returned (.tuple #[.agg #[.int .i64 0, .slice oa 3 oc, .int .i64 11], .int .i64 0, .int .i64 0]) ∧ Hid (OutAt w' (.agg #[.int .i64 0, .slice oa 3 oc, .int .i64 11]) (0, [9, 4, 1], 11))) := fun W n hn =>
    run_is (o := (0, [9, 4, 1], 11)) (by rw [sq_check]) sq_run (by decide) (by decide) (ints_new hn [3] (by simp) (fun m => r_one (by omega) (by omega))) (by simp)
  have R2 : Hid (∀ (W : World) (n : Nat), n = W.heap.size → Calls Tryz.prog 19 #[.string ⟨sqL.toArray⟩, .slice (some ⟨n, 0, none⟩) 1 1, .int .i64 3] (W.alloc (.cells #[.int .i64 3] 3)) fun e w' => Below (W.alloc (.cells #[.int .i64 3] 3)).heap.size (W.alloc (.cells #[.int .i64 3] 3)) w' ∧ ∃ oa oc, e = .returned (.tuple #[.agg #[.int .i64 8, .slice oa 1 oc, .int .i64 3], .int .i64 0, .int .i64 0]) ∧ Hid (OutAt w' (.agg #[.int .i64 8, .slice oa 1 oc, .int .i64 3]) (8, [9], 3))) := fun W n hn =>
    run_is (o := (8, [9], 3)) (by rw [sq_check]) sq_less (by decide) (by decide) (ints_new hn [3] (by simp) (fun m => r_one (by omega) (by omega))) (by simp)
  unfold sqL at R1 R2
  go_enter Tryz.func17, Tryz.ntmps17
  go_upto_region 4 with (first
    | (go_at_call 19; have _q := hb1; refine Calls.mono (R2.out _ _ (by simp)) ?_; rintro e w2 ⟨hb2, pa, pc, rfl, HO2⟩)
    | (go_at_call 19; refine Calls.mono (R1.out _ _ rfl) ?_; rintro e w1 ⟨hb1, oa, oc, rfl, HO1⟩))
  have s2 := hb2.size
  have k0 : w2.cell? ⟨w1.heap.size, 0, none⟩ = some (.int .i64 0) := kept_two hb2 0
  have k1 : w2.cell? ⟨w1.heap.size, 1, none⟩ = some (.slice oa 3 oc) := kept_two hb2 1
  have k2 : w2.cell? ⟨w1.heap.size, 2, none⟩ = some (.int .i64 11) := kept_two hb2 2
  have hlt : w1.heap.size < w2.heap.size := by simp at s2; omega
  have HO3 : Hid (∀ A B, OutAt ((w2.alloc A).alloc B) (.agg #[.int .i64 0, .slice oa 3 oc, .int .i64 11]) (0, [9, 4, 1], 11)) := fun A B => (HO1.out.below (below_two hb2)).below (up_two _ A B)
  have HN3 : Hid (∀ (W : World) (n : Nat), n = W.heap.size → IntsC (W.alloc (.cells #[.int .i64 9, .int .i64 4, .int .i64 1] 3)) (.slice (some ⟨n, 0, none⟩) 3 3) [9, 4, 1]) := fun W n hn => (ints_new hn [9, 4, 1] (by simp) r_941).c (by simp)
  have HN4 : Hid (∀ (W : World) (n : Nat), n = W.heap.size → IntsC (W.alloc (.cells #[.int .i64 9] 3)) (.slice (some ⟨n, 0, none⟩) 1 1) [9]) := fun W n hn => (ints_new hn [9] (by simp) (fun m => r_one (by omega) (by omega))).c (by simp)
  have HS2 : Hid (Below w.heap.size w w2) := (below_one hb1).trans ((below_two hb2).mono (below_one hb1).size)
  clear hb1 hb2 s2 _q
  go_wp2_with (first
    | (go_at_call 20; have _q := hb3; refine Calls.mono (is_at (r := true) (code := 8) (used := 3) (HO4.out _) (HN4.out _ _ (by first | rfl | simp)) rfl rfl rfl) ?_; rintro e w4 ⟨rfl, hb4⟩)
    | (go_at_call 20; refine Calls.mono (is_at (r := true) (code := 0) (used := 11) (HO3.out _ _) (HN3.out _ _ (by first | rfl | simp)) rfl rfl rfl) ?_; rintro e w3 ⟨rfl, hb3⟩; have j0 : w3.cell? ⟨w2.heap.size, 0, none⟩ = some (.int .i64 8) := kept_two hb3 0; have j1 : w3.cell? ⟨w2.heap.size, 1, none⟩ = some (.slice pa 1 pc) := kept_two hb3 1; have j2 : w3.cell? ⟨w2.heap.size, 2, none⟩ = some (.int .i64 3) := kept_two hb3 2; have HO4 : Hid (∀ A, OutAt (w3.alloc A) (.agg #[.int .i64 8, .slice pa 1 pc, .int .i64 3]) (8, [9], 3)) := fun A => (HO2.out.below (below_two hb3)).below ((Below.refl _ _).alloc (Nat.le_refl _) _)))
  go_ret
  exact ⟨rfl, HS2.out.trans (((below_two hb3).trans ((below_one hb4).mono (below_two hb3).size)).mono HS2.out.size)⟩

end Go.Proofs.YtklobognaldjpaaGreat
