/- Plain: what Check answers, of a text. -/
import Derived.Test.YtklobognaldjpaaGreatCLook5
namespace Go.Proofs.YtklobognaldjpaaGreat

/-- Nothing is known of names yet. -/
def env0 : Env := ⟨[], [], none, false⟩

/-- What Check answers, of a text. -/
def checkP (l : List UInt8) : Nat × Nat :=
  if 600 < l.length then (1, 0)
  else match lexAll l with
    | .error x => x
    | .ok T =>
      if (programP T ⟨0, 0, 0⟩).2.code = 0 then (match lookPr env0 (programP T ⟨0, 0, 0⟩).1 with | none => (0, 0) | some x => x)
      else ((programP T ⟨0, 0, 0⟩).2.code, (programP T ⟨0, 0, 0⟩).2.at_)

theorem lexAt_len (l : List UInt8) : ∀ (k q : Nat) (T : List Tok), l.length - q ≤ k → lexAt l q = .ok T → T.length ≤ l.length - q + 1 ∧ Toks T
  | 0, q, T, hk, h => by
    rw [lexAt_end (by omega)] at h
    cases h
    exact ⟨by simp, ⟨by simp, fun t ht => by simp at ht; subst ht; exact ⟨rfl, by show (bs []).toList = []; rw [bsl']⟩⟩⟩
  | k + 1, q, T, hk, h => by
    by_cases hq : q < l.length
    · cases hx : lex1 (l.drop q) with
      | error c => rw [lexAt_bad hq hx] at h; cases h
      | ok x =>
        rw [lexAt_ok hq hx] at h
        have hp := lex1_pos (k := x.1) (n := x.2.1) (v := x.2.2) hx
        have hg := gap_ge l (q + x.2.1)
        cases hr : lexAt l (gap l (q + x.2.1)) with
        | error e => rw [hr] at h; cases h
        | ok r =>
          rw [hr] at h
          cases h
          obtain ⟨ih1, ih2⟩ := lexAt_len l k (gap l (q + x.2.1)) r (by omega) hr
          have hpos := ih2.pos
          refine ⟨by simp; omega, ⟨by simp, fun t ht => ?_⟩⟩
          refine ih2.last t ?_
          rw [List.length_cons, show r.length + 1 - 1 = (r.length - 1) + 1 from by omega, List.getElem?_cons_succ] at ht
          exact ht
    · rw [lexAt_end hq] at h
      cases h
      exact ⟨by simp, ⟨by simp, fun t ht => by simp at ht; subst ht; exact ⟨rfl, by show (bs []).toList = []; rw [bsl']⟩⟩⟩

theorem lex1_err {l : List UInt8} {c : Nat} (h : lex1 l = .error c) : c ≠ 0 := by
  unfold lex1 at h
  split at h
  · cases h; decide
  · split at h
    · cases h
    · split at h
      · split at h
        · cases h; decide
        · cases h
      · split at h
        · cases h
        · split at h
          · cases h
          · cases h; decide

theorem lexAt_err (l : List UInt8) : ∀ (k q : Nat) (x : Nat × Nat), l.length - q ≤ k → lexAt l q = .error x → x.1 ≠ 0
  | 0, q, x, hk, h => by rw [lexAt_end (by omega)] at h; cases h
  | k + 1, q, x, hk, h => by
    by_cases hq : q < l.length
    · cases hx : lex1 (l.drop q) with
      | error c => rw [lexAt_bad hq hx] at h; cases h; exact lex1_err hx
      | ok y =>
        rw [lexAt_ok hq hx] at h
        have hp := lex1_pos (k := y.1) (n := y.2.1) (v := y.2.2) hx
        have hg := gap_ge l (q + y.2.1)
        cases hr : lexAt l (gap l (q + y.2.1)) with
        | error e => rw [hr] at h; cases h; exact lexAt_err l k _ _ (by omega) hr
        | ok r => rw [hr] at h; cases h
    · rw [lexAt_end hq] at h; cases h

theorem lexAll_err {l : List UInt8} {c q : Nat} (h : lexAll l = .error (c, q)) : c ≠ 0 := lexAt_err l _ _ (c, q) (Nat.le_refl _) h

end Go.Proofs.YtklobognaldjpaaGreat
