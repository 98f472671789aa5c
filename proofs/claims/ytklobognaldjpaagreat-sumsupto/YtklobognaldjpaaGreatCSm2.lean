/- What package lecternkeep does: wrap (its value), truth. What package lecternkeep does: signs; a heap of expressions in memory. -/
import Derived.Test.YtklobognaldjpaaGreatCKp2
import Derived.Test.YtklobognaldjpaaGreatCIn1
import Derived.Test.YtklobognaldjpaaGreatCSx4
import Derived.Test.YtklobognaldjpaaGreatCSx8
import Derived.Test.YtklobognaldjpaaGreatCParse5
import Derived.Deep.AppendLies
import Derived.Laws.OwnMore
namespace Go.Proofs.YtklobognaldjpaaGreat
open Go.RowKit

theorem wrap_tmod (n : Int) : wrapV n = wrapV (n.tmod 4294967296) ∧ -4294967296 < n.tmod 4294967296 ∧ n.tmod 4294967296 < 4294967296 := by
  unfold wrapV Int.bmod
  by_cases h : 0 ≤ n
  · rw [Int.tmod_eq_emod_of_nonneg h]
    simp only
    refine ⟨?_, by omega, by omega⟩
    split <;> split <;> omega
  · have e : n.tmod 4294967296 = -((-n) % 4294967296) := by
      have := Int.neg_tmod (-n) 4294967296
      rw [Int.neg_neg] at this
      rw [this, Int.tmod_eq_emod_of_nonneg (by omega)]
    rw [e]
    simp only
    refine ⟨?_, by omega, by omega⟩
    split <;> split <;> omega

theorem wrap_near {r : Int} (h1 : -2147483648 ≤ r) (h2 : r ≤ 2147483647) : wrapV r = r := by
  unfold wrapV Int.bmod; simp only; split <;> omega
theorem wrap_up {r : Int} (h1 : -4294967296 < r) (h2 : r < -2147483648) : wrapV r = r + 4294967296 := by
  unfold wrapV Int.bmod; simp only; split <;> omega
theorem wrap_down {r : Int} (h1 : 2147483647 < r) (h2 : r < 4294967296) : wrapV r = r - 4294967296 := by
  unfold wrapV Int.bmod; simp only; split <;> omega

set_option maxHeartbeats 1000000 in
theorem wrap_val (n : Int) (w : World) :
    Calls Tryz.prog 24 #[.int .i64 n] w fun e w' => e = .returned (.int .i64 (wrapV n)) ∧ w' = w := by
  obtain ⟨hw, hr1, hr2⟩ := wrap_tmod n
  obtain ⟨r, hr⟩ : ∃ r : Int, n.tmod 4294967296 = r := ⟨_, rfl⟩
  rw [hr] at hw hr1 hr2
  have HW : Hid (wrapV n = wrapV r) := hw
  clear hw
  by_cases hn : r < 0
  · by_cases hb : r + 4294967296 > 2147483647
    · go_enter Tryz.func24, Tryz.ntmps24
      go_wp2
      go_ret
      exact ⟨ret_int (by rw [HW.out, wrap_near (by omega) (by omega)]), rfl⟩
    · go_enter Tryz.func24, Tryz.ntmps24
      go_wp2
      go_ret
      exact ⟨ret_int (by rw [HW.out, wrap_up (by omega) (by omega)]), rfl⟩
  · by_cases hb : r > 2147483647
    · go_enter Tryz.func24, Tryz.ntmps24
      go_wp2
      go_ret
      exact ⟨ret_int (by rw [HW.out, wrap_down (by omega) (by omega)]), rfl⟩
    · go_enter Tryz.func24, Tryz.ntmps24
      go_wp2
      go_ret
      exact ⟨ret_int (by rw [HW.out, wrap_near (by omega) (by omega)]), rfl⟩

set_option maxHeartbeats 400000 in
theorem truth_any (b : Bool) (w : World) : Calls Tryz.prog 21 #[.bool b] w fun e w' => e = .returned (.int .i64 (truthV b)) ∧ w' = w := by
  cases b
  · go_enter Tryz.func21, Tryz.ntmps21
    go_wp2
    go_ret
    exact ⟨rfl, rfl⟩
  · go_enter Tryz.func21, Tryz.ntmps21
    go_wp2
    go_ret
    exact ⟨rfl, rfl⟩

theorem mul_range {x y : Int} (h1 : -2147483648 ≤ x) (h2 : x ≤ 2147483647) (h3 : -2147483648 ≤ y) (h4 : y ≤ 2147483647) : -4611686018427387904 ≤ x * y ∧ x * y ≤ 4611686018427387904 := by
  have h : (x * y).natAbs ≤ 2147483648 * 2147483648 := by
    rw [Int.natAbs_mul]
    exact Nat.mul_le_mul (by omega) (by omega)
  omega

theorem div_range {x y : Int} (h1 : -2147483648 ≤ x) (h2 : x ≤ 2147483647) : -2147483648 ≤ x.tdiv y ∧ x.tdiv y ≤ 2147483648 := by
  have h : (x.tdiv y).natAbs ≤ x.natAbs := Int.natAbs_tdiv_le_natAbs x y
  omega

set_option maxRecDepth 1000000 in
set_option maxHeartbeats 2000000 in
theorem two_any {k : Nat} (hk : k < 11) (x y : Int) (w : World) (h1 : -2147483648 ≤ x) (h2 : x ≤ 2147483647) (h3 : -2147483648 ≤ y) (h4 : y ≤ 2147483647) :
    Calls Tryz.prog 47 #[.string ⟨(sgnL k).toArray⟩, .int .i64 x, .int .i64 y] w fun e w' => e = .returned (.tuple #[.int .i64 (twoV k x y).1, .bool (twoV k x y).2]) ∧ w' = w := by
  have hW := fun n W => wrap_val n W
  have hT := fun b W => truth_any b W
  obtain ⟨m1, m2⟩ := mul_range h1 h2 h3 h4
  obtain ⟨d1, d2⟩ := div_range (y := y) h1 h2
  have hk' : k = 0 ∨ k = 1 ∨ k = 2 ∨ k = 3 ∨ k = 4 ∨ k = 5 ∨ k = 6 ∨ k = 7 ∨ k = 8 ∨ k = 9 ∨ k = 10 := by omega
  rcases hk' with rfl | rfl | rfl | rfl | rfl | rfl | rfl | rfl | rfl | rfl | rfl
  · simp only [sgnL, List.getD, twoV]
    go_enter Tryz.func47, Tryz.ntmps47
    go_wp2_with (first
      | (go_at_call 24; refine (hW _ _).mono ?_; rintro e wp ⟨rfl, h9⟩; cases h9)
      | (go_at_call 21; refine (hT _ _).mono ?_; rintro e wp ⟨rfl, h9⟩; cases h9))
    go_ret2
    exact ⟨rfl, rfl⟩
  · simp only [sgnL, List.getD, twoV]
    go_enter Tryz.func47, Tryz.ntmps47
    go_wp2_with (first
      | (go_at_call 24; refine (hW _ _).mono ?_; rintro e wp ⟨rfl, h9⟩; cases h9)
      | (go_at_call 21; refine (hT _ _).mono ?_; rintro e wp ⟨rfl, h9⟩; cases h9))
    go_ret2
    exact ⟨rfl, rfl⟩
  · simp only [sgnL, List.getD, twoV]
    go_enter Tryz.func47, Tryz.ntmps47
    go_wp2_with (first
      | (go_at_call 24; refine (hW _ _).mono ?_; rintro e wp ⟨rfl, h9⟩; cases h9)
      | (go_at_call 21; refine (hT _ _).mono ?_; rintro e wp ⟨rfl, h9⟩; cases h9))
    go_ret2
    exact ⟨rfl, rfl⟩
  · simp only [sgnL, List.getD, twoV]
    by_cases hy : y = 0
    · subst hy
      simp only [if_pos]
      go_enter Tryz.func47, Tryz.ntmps47
      go_wp2_with (first
        | (go_at_call 24; refine (hW _ _).mono ?_; rintro e wp ⟨rfl, h9⟩; cases h9)
        | (go_at_call 21; refine (hT _ _).mono ?_; rintro e wp ⟨rfl, h9⟩; cases h9))
      go_ret2
      exact ⟨rfl, rfl⟩
    · simp only [if_neg hy]
      go_enter Tryz.func47, Tryz.ntmps47
      go_wp2_with (first
        | (go_at_call 24; refine (hW _ _).mono ?_; rintro e wp ⟨rfl, h9⟩; cases h9)
        | (go_at_call 21; refine (hT _ _).mono ?_; rintro e wp ⟨rfl, h9⟩; cases h9))
      go_ret2
      exact ⟨rfl, rfl⟩
  · simp only [sgnL, List.getD, twoV]
    by_cases hy : y = 0
    · subst hy
      simp only [if_pos]
      go_enter Tryz.func47, Tryz.ntmps47
      go_wp2_with (first
        | (go_at_call 24; refine (hW _ _).mono ?_; rintro e wp ⟨rfl, h9⟩; cases h9)
        | (go_at_call 21; refine (hT _ _).mono ?_; rintro e wp ⟨rfl, h9⟩; cases h9))
      go_ret2
      exact ⟨rfl, rfl⟩
    · simp only [if_neg hy]
      go_enter Tryz.func47, Tryz.ntmps47
      go_wp2_with (first
        | (go_at_call 24; refine (hW _ _).mono ?_; rintro e wp ⟨rfl, h9⟩; cases h9)
        | (go_at_call 21; refine (hT _ _).mono ?_; rintro e wp ⟨rfl, h9⟩; cases h9))
      go_ret2
      exact ⟨rfl, rfl⟩
  · simp only [sgnL, List.getD, twoV]
    go_enter Tryz.func47, Tryz.ntmps47
    go_wp2_with (first
      | (go_at_call 24; refine (hW _ _).mono ?_; rintro e wp ⟨rfl, h9⟩; cases h9)
      | (go_at_call 21; refine (hT _ _).mono ?_; rintro e wp ⟨rfl, h9⟩; cases h9))
    go_ret2
    exact ⟨rfl, rfl⟩
  · simp only [sgnL, List.getD, twoV]
    go_enter Tryz.func47, Tryz.ntmps47
    go_wp2_with (first
      | (go_at_call 24; refine (hW _ _).mono ?_; rintro e wp ⟨rfl, h9⟩; cases h9)
      | (go_at_call 21; refine (hT _ _).mono ?_; rintro e wp ⟨rfl, h9⟩; cases h9))
    go_ret2
    exact ⟨rfl, rfl⟩
  · simp only [sgnL, List.getD, twoV]
    go_enter Tryz.func47, Tryz.ntmps47
    go_wp2_with (first
      | (go_at_call 24; refine (hW _ _).mono ?_; rintro e wp ⟨rfl, h9⟩; cases h9)
      | (go_at_call 21; refine (hT _ _).mono ?_; rintro e wp ⟨rfl, h9⟩; cases h9))
    go_ret2
    exact ⟨rfl, rfl⟩
  · simp only [sgnL, List.getD, twoV]
    go_enter Tryz.func47, Tryz.ntmps47
    go_wp2_with (first
      | (go_at_call 24; refine (hW _ _).mono ?_; rintro e wp ⟨rfl, h9⟩; cases h9)
      | (go_at_call 21; refine (hT _ _).mono ?_; rintro e wp ⟨rfl, h9⟩; cases h9))
    go_ret2
    exact ⟨rfl, rfl⟩
  · simp only [sgnL, List.getD, twoV]
    by_cases hx : x = 0
    · subst hx
      go_enter Tryz.func47, Tryz.ntmps47
      go_wp2_with (first
        | (go_at_call 24; refine (hW _ _).mono ?_; rintro e wp ⟨rfl, h9⟩; cases h9)
        | (go_at_call 21; refine (hT _ _).mono ?_; rintro e wp ⟨rfl, h9⟩; cases h9))
      go_ret2
      exact ⟨rfl, rfl⟩
    · have hx2 : (x != 0) = true := by simp [hx]
      rw [hx2]
      go_enter Tryz.func47, Tryz.ntmps47
      go_wp2_with (first
        | (go_at_call 24; refine (hW _ _).mono ?_; rintro e wp ⟨rfl, h9⟩; cases h9)
        | (go_at_call 21; refine (hT _ _).mono ?_; rintro e wp ⟨rfl, h9⟩; cases h9))
      go_ret2
      exact ⟨rfl, rfl⟩
  · simp only [sgnL, List.getD, twoV]
    by_cases hx : x = 0
    · subst hx
      go_enter Tryz.func47, Tryz.ntmps47
      go_wp2_with (first
        | (go_at_call 24; refine (hW _ _).mono ?_; rintro e wp ⟨rfl, h9⟩; cases h9)
        | (go_at_call 21; refine (hT _ _).mono ?_; rintro e wp ⟨rfl, h9⟩; cases h9))
      go_ret2
      exact ⟨rfl, rfl⟩
    · have hx2 : (x != 0) = true := by simp [hx]
      rw [hx2]
      go_enter Tryz.func47, Tryz.ntmps47
      go_wp2_with (first
        | (go_at_call 24; refine (hW _ _).mono ?_; rintro e wp ⟨rfl, h9⟩; cases h9)
        | (go_at_call 21; refine (hT _ _).mono ?_; rintro e wp ⟨rfl, h9⟩; cases h9))
      go_ret2
      exact ⟨rfl, rfl⟩

end Go.Proofs.YtklobognaldjpaaGreat

namespace Go.Proofs.YtklobognaldjpaaGreat
open Go.RowKit

theorem Tryz.infoSum : (Tryz.prog.info? 35).map (fun i => (i.zero, i.size, i.bytes)) = some (some (.agg #[.string ByteArray.empty, .int .i64 0, .int .i64 0]), 3, 32) := by kernel_rfl
theorem Tryz.cellsSum : Tryz.prog.cellsOf 35 = 3 := by kernel_rfl

/-- An expression's text, value, depth. -/
abbrev I3 := List UInt8 × Int × Nat
def itC (x : I3) : List Value := [.string ⟨x.1.toArray⟩, .int .i64 x.2.1, .int .i64 (x.2.2 : Nat)]
def flatI (l : List I3) : List Value := l.flatMap itC

theorem flatI_len : ∀ l, (flatI l).length = l.length * 3
  | [] => rfl
  | a :: l => by
    have e : flatI (a :: l) = itC a ++ flatI l := rfl
    have e2 : (itC a).length = 3 := rfl
    rw [e, List.length_append, flatI_len l, e2, List.length_cons]; omega

theorem flatI_append (a b : List I3) : flatI (a ++ b) = flatI a ++ flatI b := by simp [flatI]

theorem flatI_take (a b : List I3) : (flatI (a ++ b)).take (a.length * 3) = flatI a := by
  rw [flatI_append, ← flatI_len, List.take_left]

theorem flatI_get (a b : List I3) (x : I3) (j : Nat) (hj : j < 3) : (flatI (a ++ x :: b))[a.length * 3 + j]? = (itC x)[j]? := by
  have e : flatI (x :: b) = itC x ++ flatI b := rfl
  have e2 : (itC x).length = 3 := rfl
  rw [flatI_append, e, ← flatI_len a, List.getElem?_append_right (by omega), Nat.add_sub_cancel_left, List.getElem?_append_left (by omega)]

theorem flatI_set (a : List I3) (x : I3) (u v t : Value) : (((flatI (a ++ [x])).set (a.length * 3) u).set (a.length * 3 + 1) v).set (a.length * 3 + 2) t = flatI a ++ [u, v, t] := by
  have e : flatI [x] = itC x := by simp [flatI]
  rw [flatI_append, e, ← flatI_len a]
  simp [itC]

/-- The first so many of a row. -/
theorem owns_first {w : World} {base : Nat} {e : TypeId} {size g cap n : Nat} {xs : List Value} (h : w.ownsRow base e size (.slice (some ⟨g, 0, none⟩) n cap) n xs) {k : Nat} (hk : k ≤ n) : w.ownsRow base e size (.slice (some ⟨g, 0, none⟩) k cap) k (xs.take (k * size)) := by
  obtain ⟨h1, h2⟩ := h
  have hm : k * size ≤ n * size := Nat.mul_le_mul_right _ hk
  rcases h2 with ⟨h0, _⟩ | ⟨g', cap', cur, hv, hg, hh, hn, hcap, hsz, htake⟩
  · cases h0
  · cases hv
    refine ⟨by rw [List.length_take]; omega, .inr ⟨g, cap, cur, rfl, hg, hh, by omega, hcap, hsz, ?_⟩⟩
    rw [← htake, List.take_take, Nat.min_eq_left hm]

theorem IntsAt.over {w w' : World} {v : Value} {zs : List Int} (h : IntsAt w v zs) (hb : Below w.heap.size w w') : IntsAt w' v zs := by
  obtain ⟨a, cap, rfl, h1, h2, h3⟩ := h
  refine ⟨a, cap, rfl, h1, h2, ?_⟩
  rcases h3 with h3 | ⟨b, off, rfl, hl, h3⟩
  · exact .inl h3
  · refine .inr ⟨b, off, rfl, Nat.lt_of_lt_of_le hl hb.size, fun i hi => ?_⟩
    rw [hb.cell (p := ⟨b, off + i, none⟩) hl]
    exact h3 i hi

/-- The heap that sum lays expressions on. -/
structure SI (w1 : World) (v : Value) (its : List I3) (wr : World) : Prop where
  own : wr.ownsRow w1.heap.size 35 3 v its.length (flatI its)
  ok : ∀ x ∈ its, It x.1 x.2.1 x.2.2
  bel : Below w1.heap.size w1 wr

theorem below_grown {b : Nat} {a w w' : World} {row : Option Nat} (h : Below b a w) (hg : w.grownBy w' row) (hb : b ≤ w.heap.size) (hr : ∀ k, row = some k → b ≤ k) : Below b a w' :=
  h.trans ⟨hg.os, hg.tape, hg.output, hg.size, fun k hk => hg.block k (by omega) (fun e => by have := hr k e.symm; omega)⟩

theorem SI.below {w1 w w' : World} {v : Value} {its : List I3} (h : SI w1 v its w) (hb : Below w.heap.size w w') : SI w1 v its w' :=
  ⟨owns_below h.own hb, h.ok, h.bel.trans (hb.mono h.bel.size)⟩

theorem SI.grow {w1 w w' : World} {v v' : Value} {its : List I3} {x : I3} (h : SI w1 v its w) (hx : It x.1 x.2.1 x.2.2) (ho : w'.ownsRow w1.heap.size 35 3 v' (its.length + 1) (flatI its ++ itC x)) (hg : w.grownBy w' v.ownBlock) : SI w1 v' (its ++ [x]) w' := by
  refine ⟨?_, fun y hy => ?_, below_grown h.bel hg h.bel.size fun k hk => (h.own.lt k hk).1⟩
  · have e : flatI [x] = itC x := by simp [flatI]
    rw [flatI_append, e, List.length_append]; exact ho
  · rcases List.mem_append.1 hy with hy | hy
    · exact h.ok y hy
    · rw [List.mem_singleton] at hy; subst hy; exact hx

theorem SI.cut {w1 w : World} {g cap n : Nat} {a b : List I3} (h : SI w1 (.slice (some ⟨g, 0, none⟩) n cap) (a ++ b) w) (hn : n = (a ++ b).length) : SI w1 (.slice (some ⟨g, 0, none⟩) a.length cap) a w := by
  subst hn
  refine ⟨?_, fun x hx => h.ok x (by simp [hx]), h.bel⟩
  have := owns_first h.own (k := a.length) (by rw [List.length_append]; omega)
  rwa [flatI_take] at this

theorem SI.set {w1 w : World} {g cap n : Nat} {a : List I3} {x y : I3} (h : SI w1 (.slice (some ⟨g, 0, none⟩) n cap) (a ++ [x]) w) (hn : n = (a ++ [x]).length) (hy : It y.1 y.2.1 y.2.2) :
    SI w1 (.slice (some ⟨g, 0, none⟩) n cap) (a ++ [y]) (((w.setCell ⟨g, a.length * 3, none⟩ (.string ⟨y.1.toArray⟩)).setCell ⟨g, a.length * 3 + 1, none⟩ (.int .i64 y.2.1)).setCell ⟨g, a.length * 3 + 2, none⟩ (.int .i64 (y.2.2 : Nat))) := by
  subst hn
  have hg : w1.heap.size ≤ g := (h.own.lt g rfl).1
  obtain ⟨o1, g1⟩ := h.own.stored (a.length * 3) (.string ⟨y.1.toArray⟩)
  obtain ⟨o2, g2⟩ := o1.stored (a.length * 3 + 1) (.int .i64 y.2.1)
  obtain ⟨o3, g3⟩ := o2.stored (a.length * 3 + 2) (.int .i64 (y.2.2 : Nat))
  rw [flatI_set] at o3
  have hr : ∀ k, some g = some k → w1.heap.size ≤ k := fun k hk => by cases hk; exact hg
  refine ⟨?_, fun z hz => ?_, ?_⟩
  · have e : flatI (a ++ [y]) = flatI a ++ [.string ⟨y.1.toArray⟩, .int .i64 y.2.1, .int .i64 (y.2.2 : Nat)] := by rw [flatI_append]; simp [flatI, itC]
    rw [e]
    have e2 : (a ++ [x]).length = (a ++ [y]).length := by simp
    rw [e2] at o3 ⊢
    exact o3
  · rcases List.mem_append.1 hz with hz | hz
    · exact h.ok z (by simp [hz])
    · rw [List.mem_singleton] at hz; subst hz; exact hy
  · have b1 := below_grown h.bel g1 h.bel.size hr
    have b2 := below_grown b1 g2 b1.size hr
    exact below_grown b2 g3 b2.size hr

/-- What lies on the heap, in its cells. -/
theorem SI.at {w1 w : World} {g cap n : Nat} {a b : List I3} {x : I3} (h : SI w1 (.slice (some ⟨g, 0, none⟩) n cap) (a ++ x :: b) w) (hn : n = (a ++ x :: b).length) :
    w.cell? ⟨g, a.length * 3, none⟩ = some (.string ⟨x.1.toArray⟩) ∧ w.cell? ⟨g, a.length * 3 + 1, none⟩ = some (.int .i64 x.2.1) ∧ w.cell? ⟨g, a.length * 3 + 2, none⟩ = some (.int .i64 (x.2.2 : Nat)) := by
  subst hn
  have hl : a.length * 3 + 2 < (a ++ x :: b).length * 3 := by simp; omega
  refine ⟨?_, ?_, ?_⟩
  · rw [h.own.cellAt _ (by omega)]; exact flatI_get a b x 0 (by omega)
  · rw [h.own.cellAt _ (by omega)]; exact flatI_get a b x 1 (by omega)
  · rw [h.own.cellAt _ (by omega)]; exact flatI_get a b x 2 (by omega)

theorem kept_at {w w' : World} {b o : Nat} {v : Value} (hb : Below w.heap.size w w') (h : w.cell? ⟨b, o, none⟩ = some v) : w'.cell? ⟨b, o, none⟩ = some v := by
  rw [hb.cell (p := ⟨b, o, none⟩) (lt_of_cell h)]; exact h

theorem cell_three_new (w : World) (a b c : Value) (t : TypeId) : ∀ j u, [a, b, c][j]? = some u → (w.alloc (.cells #[a, b, c] t)).cell? ((⟨w.heap.size, 0, none⟩ : Addr).add j) = some u := by
  intro j u hj
  match j, hj with
  | 0, hj => simp at hj; subst hj; simp [Addr.add]
  | 1, hj => simp at hj; subst hj; simp [Addr.add]
  | 2, hj => simp at hj; subst hj; simp [Addr.add]
  | j + 3, hj => simp at hj

set_option maxRecDepth 1000000 in
set_option maxHeartbeats 1000000 in
theorem signs_any (w : World) : Calls Tryz.prog 46 #[] w fun e w' => ∃ sb, e = .returned (.slice (some ⟨sb, 0, none⟩) 11 11) ∧ Below w.heap.size w w' ∧ w.heap.size ≤ sb ∧ sb < w'.heap.size ∧ ∀ k, k < 11 → w'.cell? ⟨sb, k, none⟩ = some (.string ⟨(sgnL k).toArray⟩) := by
  go_enter Tryz.func46, Tryz.ntmps46
  go_wp2
  go_ret
  refine ⟨w.heap.size, rfl, (Below.refl _ _).alloc (Nat.le_refl _) _, Nat.le_refl _, by simp, fun k hk => ?_⟩
  rw [World.cell?_alloc_new]
  have hk' : k = 0 ∨ k = 1 ∨ k = 2 ∨ k = 3 ∨ k = 4 ∨ k = 5 ∨ k = 6 ∨ k = 7 ∨ k = 8 ∨ k = 9 ∨ k = 10 := by omega
  rcases hk' with rfl | rfl | rfl | rfl | rfl | rfl | rfl | rfl | rfl | rfl | rfl <;> rfl

end Go.Proofs.YtklobognaldjpaaGreat
