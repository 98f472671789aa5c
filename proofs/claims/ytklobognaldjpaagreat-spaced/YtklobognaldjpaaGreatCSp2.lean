/- What package lecternkeep does: same, wrap. The law Spaced: what stands between tokens. -/
import Derived.Test.YtklobognaldjpaaGreatCKp7
import Derived.Test.YtklobognaldjpaaGreatCEr2
import Derived.Test.YtklobognaldjpaaGreatCKp3
namespace Go.Proofs.YtklobognaldjpaaGreat
open Go.RowKit

set_option maxRecDepth 1000000 in
set_option maxHeartbeats 2000000 in
theorem same_eq {vo vp : Value} {o : Nat × List Int × Nat} {w : World} (ho : OutAt w vo o) (hp : OutAt w vp o) :
    Calls Tryz.prog 26 #[vo, vp] w fun e w' => e = .returned (.bool true) ∧ Below w.heap.size w w' := by
  obtain ⟨u, rfl, hu⟩ := ho
  obtain ⟨v, rfl, hv⟩ := hp
  obtain ⟨oc, out, ou⟩ := o
  dsimp only at hu hv ⊢
  have H1 : Hid (∀ A B, Calls Tryz.prog 36 #[u, v] ((w.alloc A).alloc B) fun e w' => e = .returned (.bool true) ∧ Below ((w.alloc A).alloc B).heap.size ((w.alloc A).alloc B) w') := fun A B => by
    have := sameInts_any u v out out ((w.alloc A).alloc B) (hu.below (up_two _ _ _)) (hv.below (up_two _ _ _))
    rwa [decide_eq_true rfl] at this
  obtain ⟨a, ca, rfl, _⟩ := hu
  obtain ⟨b, cb, rfl, _⟩ := hv
  go_enter Tryz.func26, Tryz.ntmps26
  go_wp2_with (go_at_call 36; refine Calls.mono (H1.out _ _) ?_; rintro e w2 ⟨rfl, hb2⟩; have c0 : w2.cell? ⟨w.heap.size, 0, none⟩ = some (.int .i64 (oc : Nat)) := kept_two hb2 0; have c2 : w2.cell? ⟨w.heap.size, 2, none⟩ = some (.int .i64 (ou : Nat)) := kept_two hb2 2; have d0 : w2.cell? ⟨w.heap.size + 1, 0, none⟩ = some (.int .i64 (oc : Nat)) := (by have := kept_one hb2 0; simpa using this); have d2 : w2.cell? ⟨w.heap.size + 1, 2, none⟩ = some (.int .i64 (ou : Nat)) := (by have := kept_one hb2 2; simpa using this))
  go_ret
  exact ⟨rfl, below_two hb2⟩

set_option maxHeartbeats 1000000 in
theorem wrap_any (n : Int) (w : World) :
    Calls Tryz.prog 24 #[.int .i64 n] w fun e w' => (∃ z : Int, e = .returned (.int .i64 z) ∧ -2147483648 ≤ z ∧ z ≤ 2147483647) ∧ w' = w := by
  obtain ⟨r, hr, hr1, hr2⟩ : ∃ r : Int, n.tmod 4294967296 = r ∧ -4294967296 < r ∧ r < 4294967296 := ⟨_, rfl, by have := Int.lt_tmod_of_pos n (show (0 : Int) < 4294967296 by omega); omega, Int.tmod_lt_of_pos n (by omega)⟩
  by_cases hn : r < 0
  · by_cases hb : r + 4294967296 > 2147483647
    · go_enter Tryz.func24, Tryz.ntmps24
      go_wp2
      go_ret
      exact ⟨⟨_, rfl, by omega, by omega⟩, rfl⟩
    · go_enter Tryz.func24, Tryz.ntmps24
      go_wp2
      go_ret
      exact ⟨⟨_, rfl, by omega, by omega⟩, rfl⟩
  · by_cases hb : r > 2147483647
    · go_enter Tryz.func24, Tryz.ntmps24
      go_wp2
      go_ret
      exact ⟨⟨_, rfl, by omega, by omega⟩, rfl⟩
    · go_enter Tryz.func24, Tryz.ntmps24
      go_wp2
      go_ret
      exact ⟨⟨_, rfl, by omega, by omega⟩, rfl⟩

end Go.Proofs.YtklobognaldjpaaGreat

namespace Go.Proofs.YtklobognaldjpaaGreat
open Go.RowKit

/-- What stands ahead of a word, out of raw numbers. -/
def gsOf (gl : List Int) (i : Nat) : List UInt8 := if i < gl.length then gapOf (pickI (gl.getD i 0) 6).toNat else [32]

theorem gs_ok (gl : List Int) (i : Nat) : GapOk (gsOf gl i) := by
  unfold gsOf
  split
  · exact gap_ok _
  · exact ok_blank

theorem gap_len : ∀ n, (gapOf n).length ≤ 8
  | 0 => by decide
  | 1 => by decide
  | 2 => by decide
  | 3 => by decide
  | 4 => by decide
  | 5 => by decide
  | _ + 6 => by simp [gapOf]

theorem gs_len (gl : List Int) (i : Nat) : (gsOf gl i).length ≤ 8 := by
  unfold gsOf
  split
  · exact gap_len _
  · simp

theorem spR_len {gs : Nat → List UInt8} (h : ∀ i, (gs i).length ≤ 8) : ∀ (r : List (List UInt8)) (i : Nat), (spR gs i r).length ≤ (r.flatMap (fun u => [32] ++ u)).length + 8 * r.length
  | [], _ => by simp [spR]
  | u :: r, i => by
    have := spR_len h r (i + 1)
    have h0 := h i
    rw [spR, List.flatMap_cons]
    simp only [List.length_append, List.length_cons, List.length_nil] at this ⊢
    omega

theorem spT_len {gs : Nat → List UInt8} (h : ∀ i, (gs i).length ≤ 8) (l : List (List UInt8)) : (spT gs l).length ≤ (joinW l).length + 8 * l.length := by
  cases l with
  | nil => simp [spT]
  | cons t r =>
    have := spR_len h r 0
    show (t ++ spR gs 0 r).length ≤ (t ++ r.flatMap (fun u => [32] ++ u)).length + 8 * (r.length + 1)
    simp only [List.length_append] at this ⊢
    omega

theorem spR_snoc {gs : Nat → List UInt8} : ∀ (r : List (List UInt8)) (i : Nat) (u : List UInt8), spR gs i (r ++ [u]) = spR gs i r ++ (gs (i + r.length) ++ u)
  | [], i, u => by simp [spR]
  | t :: r, i, u => by
    rw [List.cons_append, spR, spR, spR_snoc r]
    simp only [List.append_assoc, List.length_cons]
    rw [show i + 1 + r.length = i + (r.length + 1) by omega]

theorem spT_take {gs : Nat → List UInt8} {ws : List (List UInt8)} {m : Nat} (h : m + 1 < ws.length) : spT gs (ws.take (m + 2)) = spT gs (ws.take (m + 1)) ++ (gs m ++ ws[m + 1]) := by
  have e : ws.take (m + 2) = ws.take (m + 1) ++ [ws[m + 1]] := by rw [List.take_add_one, List.getElem?_eq_getElem h]; rfl
  rw [e]
  have hl : (ws.take (m + 1)).length = m + 1 := by rw [List.length_take]; omega
  cases hw : ws.take (m + 1) with
  | nil => rw [hw] at hl; simp at hl
  | cons t r =>
    rw [hw] at hl
    rw [List.cons_append, spT, spT, spR_snoc, Nat.zero_add, List.append_assoc]
    rw [show r.length = m by simpa using hl]

theorem wordsAt_under {w w' : World} {b : Nat} {ws : List (List UInt8)} (h : WordsAt w b ws) (hl : b < w.heap.size) (hb : Below w.heap.size w w') : WordsAt w' b ws := fun j t hj => by
  rw [hb.cell (p := ⟨b, j, none⟩) hl]; exact h j t hj

theorem rch_used {W : List Nat} {B : Nat} {m m' : MS} (hr : Rch W B m m') : m.used ≤ B → m'.used ≤ B := by
  induction hr with
  | refl m => exact id
  | step h0 hb hs hr ih => exact fun h => ih ((stepM_inv hs h0).2.2.1 h)

/-- No more units are used than there are. -/
theorem used_le {l : List UInt8} (hc : (checkP l).1 = 0) (zs : List Int) (B : Nat) : (outcome (treeOf l) zs B).2.2 ≤ B := by
  obtain ⟨hP, _, _⟩ := passed_of hc
  obtain ⟨T2, hT601, hwh⟩ := hP.wh
  obtain ⟨m', hr, _, _, hu⟩ := run_code hwh hT601 hP.look (by have := hP.len; omega) zs B
  rw [← hu]
  exact rch_used hr (Nat.zero_le _)

/-- A row of values that the call made. -/
theorem own_ints {w : World} {base : Nat} {a : Option Addr} {n cap : Nat} {xs : List Int} (h : w.ownsRow base 3 1 (.slice a n cap) n (xs.map (.int .i64))) (hn : xs.length = n) (hl : n ≤ maxLen) (hok : okIn xs = true) : IntsAt w (.slice a n cap) xs := by
  subst hn
  refine ⟨a, cap, rfl, hl, fun z hz => ?_, ?_⟩
  · unfold okIn at hok
    have := List.all_eq_true.1 hok z hz
    simp at this
    omega
  · by_cases h0 : xs = []
    · exact .inl h0
    · obtain ⟨tb, cap2, e, hb, hlt⟩ := h.form (List.length_pos_iff.2 h0)
      cases e
      refine .inr ⟨tb, 0, rfl, hlt, fun i hi => ?_⟩
      have := h.cellAt i (by simpa using hi)
      rw [Nat.zero_add, this, List.getElem?_map, List.getElem?_eq_getElem hi]
      simp [List.getD, hi]

theorem ok_snoc {xs : List Int} {z : Int} (h : okIn xs = true) (h1 : -2147483648 ≤ z) (h2 : z ≤ 2147483647) : okIn (xs ++ [z]) = true := by
  unfold okIn at *
  rw [List.all_append, h]
  simp [h1, h2]

end Go.Proofs.YtklobognaldjpaaGreat
