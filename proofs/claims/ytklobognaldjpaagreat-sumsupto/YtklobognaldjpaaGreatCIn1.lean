/- Plain: which of some things a raw number speaks of. A list of numbers in memory. -/
import Derived.Test.YtklobognaldjpaaGreatCPure5
import Derived.Test.YtklobognaldjpaaGreatCScan5
namespace Go.Proofs.YtklobognaldjpaaGreat

def pickI (c n : Int) : Int := (if c < 0 then -(c + 1) else c).tmod n

theorem pickI_lt (c : Int) {n : Nat} (hn : 0 < n) : (pickI c n).toNat < n ∧ 0 ≤ pickI c n ∧ pickI c n < n := by
  unfold pickI
  have h0 : (0 : Int) ≤ (if c < 0 then -(c + 1) else c) := by split <;> omega
  generalize (if c < 0 then -(c + 1) else c) = d at *
  have h1 := Int.tmod_nonneg (n : Int) h0
  have h2 := Int.tmod_lt_of_pos d (b := (n : Int)) (by omega)
  omega

end Go.Proofs.YtklobognaldjpaaGreat

namespace Go.Proofs.YtklobognaldjpaaGreat
open Go.RowKit

/-- A list of numbers in memory. -/
def IntsAt (w : World) (v : Value) (zs : List Int) : Prop :=
  ∃ a cap, v = .slice a zs.length cap ∧ zs.length ≤ maxLen ∧ (∀ n ∈ zs, -9223372036854775808 ≤ n ∧ n ≤ 9223372036854775807) ∧
    (zs = [] ∨ ∃ b off, a = some ⟨b, off, none⟩ ∧ b < w.heap.size ∧ ∀ i, i < zs.length → w.cell? ⟨b, off + i, none⟩ = some (.int .i64 (zs.getD i 0)))

end Go.Proofs.YtklobognaldjpaaGreat
