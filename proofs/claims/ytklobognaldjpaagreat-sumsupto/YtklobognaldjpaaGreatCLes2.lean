/- Plain: the programs that lecternkeep's lesson makes, as tokens. Plain: a statement that is cut short. -/
import Derived.Test.YtklobognaldjpaaGreatCLex1
import Derived.Test.YtklobognaldjpaaGreatCLook5
namespace Go.Proofs.YtklobognaldjpaaGreat

def endW : List UInt8 := [101, 110, 100]
def dotW : List UInt8 := [46]

/-- The kind and the number of a word. -/
def tkOf (t : List UInt8) : TK × Nat := match lex1 t with | .ok x => (x.1, x.2.2) | .error _ => (.over, 0)

/-- The tokens of words, at such places. -/
def toksF (p : Nat → Nat) : List (List UInt8) → List Tok
  | [] => []
  | t :: r => ⟨(tkOf t).1, ⟨t.toArray⟩, (tkOf t).2, p 0⟩ :: toksF (fun j => p (j + 1)) r

def overAt (e : Nat) : Tok := ⟨.over, ⟨#[]⟩, 0, e⟩

theorem toksF_append (p : Nat → Nat) : ∀ (a b : List (List UInt8)), toksF p (a ++ b) = toksF p a ++ toksF (fun j => p (a.length + j)) b
  | [], b => by simp [toksF]
  | t :: r, b => by
    simp only [List.cons_append, toksF, List.length_cons]
    rw [toksF_append (fun j => p (j + 1)) r b]
    congr 2
    congr 1
    funext j
    congr 1
    omega

theorem toksF_length (p : Nat → Nat) : ∀ l, (toksF p l).length = l.length
  | [] => rfl
  | t :: r => by simp only [toksF, List.length_cons]; rw [toksF_length]

theorem map_all {α β : Type} {f g : α → β} {l : List α} (h : l.map f = l.map g) {x : α} (hx : x ∈ l) : f x = g x := List.map_inj_left.1 h x hx


end Go.Proofs.YtklobognaldjpaaGreat

namespace Go.Proofs.YtklobognaldjpaaGreat

/-- What closes a program. -/
def finish (T : List Tok) (s : PS) : PS := endP T (want T (bs [46]) (want T (bs [101, 110, 100]) s))

end Go.Proofs.YtklobognaldjpaaGreat
