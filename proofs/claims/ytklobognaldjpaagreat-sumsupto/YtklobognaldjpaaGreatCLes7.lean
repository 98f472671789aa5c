/- Plain: what stands ahead of the statements of a lesson. Plain: what stands ahead of the statements, cut short. Plain: the words of a lesson are tokens. Plain: a lesson is read, and one that is cut short is told at its end. Plain: what Check answers of a lesson, of one that is cut short, of one with a byte that begins no token. -/
import Derived.Test.YtklobognaldjpaaGreatCLes2
import Derived.Test.YtklobognaldjpaaGreatCChkP
import Derived.Test.YtklobognaldjpaaGreatCIn1
namespace Go.Proofs.YtklobognaldjpaaGreat

def nA : ByteArray := ⟨#[97]⟩
def nF : ByteArray := ⟨#[102]⟩
def nN : ByteArray := ⟨#[110]⟩
end Go.Proofs.YtklobognaldjpaaGreat

namespace Go.Proofs.YtklobognaldjpaaGreat

end Go.Proofs.YtklobognaldjpaaGreat

namespace Go.Proofs.YtklobognaldjpaaGreat

end Go.Proofs.YtklobognaldjpaaGreat

namespace Go.Proofs.YtklobognaldjpaaGreat

set_option maxRecDepth 1000000 in
theorem finish_whole (p : Nat → Nat) (a e : Nat) : finish (toksF p [endW, dotW] ++ [overAt e]) ⟨0, a, 0⟩ = ⟨0, a, 2⟩ := by kernel_rfl

theorem sh_finish {T : List Tok} {i : Nat} (hi : i < T.length) (s : PS) : finish T (sh i s) = sh i (finish (T.drop i) s) := by
  unfold finish endP
  rw [sh_want hi, sh_want hi, sh_kind, sh_fails hi]
  split <;> rfl

theorem program_finish (T : List Tok) (s : PS) : programP T s = (⟨(globalsP T s).1, (listOf T (stmtD T 14) (want T (bs [98, 101, 103, 105, 110]) (globalsP T s).2)).1⟩, finish T (listOf T (stmtD T 14) (want T (bs [98, 101, 103, 105, 110]) (globalsP T s).2)).2) := rfl

end Go.Proofs.YtklobognaldjpaaGreat

namespace Go.Proofs.YtklobognaldjpaaGreat

end Go.Proofs.YtklobognaldjpaaGreat
