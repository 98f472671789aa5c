/- Plain: whoever is a number is a value; what is known of a text that passed. -/
import Derived.Test.YtklobognaldjpaaGreatCChk1
import Derived.Test.YtklobognaldjpaaGreatCSim9
import Derived.Test.YtklobognaldjpaaGreatCSz1
namespace Go.Proofs.YtklobognaldjpaaGreat
open Go.RowKit

theorem lex1_val {l : List UInt8} {x : TK × Nat × Nat} (h : lex1 l = .ok x) : x.2.2 ≤ 2147483647 := by
  unfold lex1 at h
  split at h
  · cases h
  · split at h
    · cases h; simp
    · split at h
      · split at h
        · cases h
        · rename_i hv; cases h; unfold maxNumber at hv; simp only; omega
      · split at h
        · cases h; simp
        · split at h
          · cases h; simp
          · cases h

theorem lexAt_val (l : List UInt8) : ∀ (k q : Nat) (T : List Tok), l.length - q ≤ k → lexAt l q = .ok T → ∀ t ∈ T, t.val ≤ 2147483647
  | 0, q, T, hk, h => by
    rw [lexAt_end (by omega)] at h
    cases h
    intro t ht
    simp at ht
    subst ht
    show 0 ≤ _; omega
  | k + 1, q, T, hk, h => by
    by_cases hq : q < l.length
    · cases hx : lex1 (l.drop q) with
      | error c => rw [lexAt_bad hq hx] at h; cases h
      | ok x =>
        rw [lexAt_ok hq hx] at h
        have hp := lex1_pos (k := x.1) (n := x.2.1) (v := x.2.2) hx
        have hg := gap_ge l (q + x.2.1)
        cases hr : lexAt l (gap l (q + x.2.1)) with
        | error e => rw [hr] at h; cases h
        | ok r =>
          rw [hr] at h
          cases h
          have ih := lexAt_val l k (gap l (q + x.2.1)) r (by omega) hr
          intro t ht
          rcases List.mem_cons.1 ht with rfl | ht
          · exact lex1_val hx
          · exact ih t ht
    · rw [lexAt_end hq] at h
      cases h
      intro t ht
      simp at ht
      subst ht
      show 0 ≤ _; omega

/-- What is known of a text that passed the check: its tree. -/
structure Passed (l : List UInt8) (p : Pr) : Prop where
  wh : ∃ T : List Tok, T.length ≤ 601 ∧ PrWh T p
  look : lookPr env0 p = none
  len : (cPr p).1.length ≤ 4809

/-- The tree of a text. -/
def treeOf (l : List UInt8) : Pr := match lexAll l with
  | .ok T => (programP T ⟨0, 0, 0⟩).1
  | .error _ => ⟨[], []⟩

theorem passed_of {l : List UInt8} (h : (checkP l).1 = 0) : Passed l (treeOf l) ∧ l.length ≤ 600 ∧ ∃ T, lexAll l = .ok T ∧ (programP T ⟨0, 0, 0⟩).2.code = 0 ∧ treeOf l = (programP T ⟨0, 0, 0⟩).1 := by
  unfold checkP at h
  by_cases h0 : 600 < l.length
  · rw [if_pos h0] at h; cases h
  · rw [if_neg h0] at h
    cases hx : lexAll l with
    | error e =>
      rw [hx] at h
      exact absurd h (lexAt_err l _ _ e (Nat.le_refl _) hx)
    | ok T =>
      rw [hx] at h
      simp only at h
      obtain ⟨hTl, hT⟩ := lexAt_len l _ _ T (Nat.le_refl _) hx
      have hN : NW T := ⟨⟨by omega, lexAt_nm l (by omega) _ _ T (Nat.le_refl _) hx⟩, fun t ht _ => lexAt_val l _ _ T (Nat.le_refl _) hx t ht⟩
      by_cases hc : (programP T ⟨0, 0, 0⟩).2.code = 0
      · rw [if_pos hc] at h
        have ht : treeOf l = (programP T ⟨0, 0, 0⟩).1 := by unfold treeOf; rw [hx]
        refine ⟨?_, by omega, T, rfl, hc, ht⟩
        rw [ht]
        refine ⟨⟨T, by omega, wh_program hT hN (s := ⟨0, 0, 0⟩) hT.pos rfl hc⟩, ?_, ?_⟩
        · cases hk : lookPr env0 (programP T ⟨0, 0, 0⟩).1 with
          | none => rfl
          | some x =>
            rw [hk] at h
            have hz : Nz (lookPr env0 (programP T ⟨0, 0, 0⟩).1) := by unfold lookPr; exact (nz_lookGls _ _).or (nz_lookSts _ _)
            exact absurd h (hz x hk)
        · have := sz_program hT (s := ⟨0, 0, 0⟩) hT.pos
          omega
      · rw [if_neg hc] at h; exact absurd h hc

end Go.Proofs.YtklobognaldjpaaGreat
