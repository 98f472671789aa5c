/- Plain: what Check answers of a text that is written out. -/
import Derived.Test.YtklobognaldjpaaGreatCChkP
import Derived.KernelRfl
namespace Go.Proofs.YtklobognaldjpaaGreat

def gapF : Nat → List UInt8 → Nat → Nat
  | 0, _, p => p
  | n + 1, l, p => if p < l.length then (if gapSz (l.drop p) = 0 then p else gapF n l (p + gapSz (l.drop p))) else p

theorem gapF_eq : ∀ (n : Nat) (l : List UInt8) (p : Nat), l.length - p ≤ n → gapF n l p = gap l p
  | 0, l, p, h => by rw [gap, if_neg (by omega)]; rfl
  | n + 1, l, p, h => by
    rw [gap, gapF]
    split
    · split
      · rfl
      · rename_i h1 h2
        exact gapF_eq n l _ (by omega)
    · rfl

/-- The tokens, with fuel. -/
def lexF : Nat → List UInt8 → Nat → Except (Nat × Nat) (List Tok)
  | 0, l, _ => .ok [overTok l]
  | n + 1, l, q =>
    if q < l.length then
      match lex1 (l.drop q) with
      | .error c => .error (c, q)
      | .ok x => match lexF n l (gapF l.length l (q + x.2.1)) with
        | .error e => .error e
        | .ok r => .ok (mkTok l q x :: r)
    else .ok [overTok l]

theorem lexF_eq : ∀ (n : Nat) (l : List UInt8) (q : Nat), l.length - q ≤ n → lexF n l q = lexAt l q
  | 0, l, q, h => by rw [lexAt_end (by omega)]; rfl
  | n + 1, l, q, h => by
    rw [lexF]
    by_cases hq : q < l.length
    · rw [if_pos hq]
      cases hx : lex1 (l.drop q) with
      | error c => rw [lexAt_bad hq hx]
      | ok x =>
        have hp := lex1_pos (k := x.1) (n := x.2.1) (v := x.2.2) hx
        have hg := gap_ge l (q + x.2.1)
        rw [lexAt_ok hq hx]
        show (match lexF n l (gapF l.length l (q + x.2.1)) with | .error e => Except.error e | .ok r => .ok (mkTok l q x :: r)) = _
        rw [gapF_eq _ _ _ (by omega), lexF_eq n l _ (by omega)]
        cases lexAt l (gap l (q + x.2.1)) <;> rfl
    · rw [if_neg hq, lexAt_end hq]

/-- Check, by evaluation. -/
def checkE (l : List UInt8) : Nat × Nat :=
  if 600 < l.length then (1, 0)
  else match lexF l.length l (gapF l.length l 0) with
    | .error x => x
    | .ok T =>
      if (programP T ⟨0, 0, 0⟩).2.code = 0 then (match lookPr env0 (programP T ⟨0, 0, 0⟩).1 with | none => (0, 0) | some x => x)
      else ((programP T ⟨0, 0, 0⟩).2.code, (programP T ⟨0, 0, 0⟩).2.at_)

theorem checkE_eq (l : List UInt8) : checkE l = checkP l := by
  unfold checkE checkP lexAll
  rw [gapF_eq _ _ _ (by omega), lexF_eq _ _ _ (by omega)]
  rfl

/-- A number's digits. -/
def digF : Nat → Nat → List UInt8
  | 0, _ => []
  | f + 1, n => if n < 10 then [UInt8.ofNat (48 + n)] else digF f (n / 10) ++ [UInt8.ofNat (48 + n % 10)]
def digL (n : Nat) : List UInt8 := digF 20 n

end Go.Proofs.YtklobognaldjpaaGreat
