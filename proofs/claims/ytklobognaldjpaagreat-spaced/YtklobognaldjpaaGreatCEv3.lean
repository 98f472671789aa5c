/- Plain: Run by evaluation, of a text that is written out. -/
import Derived.Test.YtklobognaldjpaaGreatCEv2
import Derived.Test.YtklobognaldjpaaGreatCNw1
import Derived.Test.YtklobognaldjpaaGreatCSim2
namespace Go.Proofs.YtklobognaldjpaaGreat

/-- The tree, by evaluation. -/
def treeE (l : List UInt8) : Pr := match lexF l.length l (gapF l.length l 0) with
  | .ok T => (programP T ⟨0, 0, 0⟩).1
  | .error _ => ⟨[], []⟩

theorem treeE_eq (l : List UInt8) : treeE l = treeOf l := by
  unfold treeE treeOf lexAll
  rw [gapF_eq _ _ _ (by omega), lexF_eq _ _ _ (by omega)]
  rfl

/-- 'var n; begin read n; while n > 0 do begin write n * n; n := n - 1 end end.' -/
def sqL : List UInt8 := [118, 97, 114, 32, 110, 59, 32, 98, 101, 103, 105, 110, 32, 114, 101, 97, 100, 32, 110, 59, 32, 119, 104, 105, 108, 101, 32, 110, 32, 62, 32, 48, 32, 100, 111, 32, 98, 101, 103, 105, 110, 32, 119, 114, 105, 116, 101, 32, 110, 32, 42, 32, 110, 59, 32, 110, 32, 58, 61, 32, 110, 32, 45, 32, 49, 32, 101, 110, 100, 32, 101, 110, 100, 46]
/-- 'func f(n) begin if n < 1 then f := 0 else f := n + f(n - 1) end; begin write f(' -/
def callA : List UInt8 := [102, 117, 110, 99, 32, 102, 40, 110, 41, 32, 98, 101, 103, 105, 110, 32, 105, 102, 32, 110, 32, 60, 32, 49, 32, 116, 104, 101, 110, 32, 102, 32, 58, 61, 32, 48, 32, 101, 108, 115, 101, 32, 102, 32, 58, 61, 32, 110, 32, 43, 32, 102, 40, 110, 32, 45, 32, 49, 41, 32, 101, 110, 100, 59, 32, 98, 101, 103, 105, 110, 32, 119, 114, 105, 116, 101, 32, 102, 40]
def callB : List UInt8 := [41, 32, 101, 110, 100, 46]
/-- 'var n; begin read n; while n > 0 do begin write n; n := n - 1 end end.' -/
def cntL : List UInt8 := [118, 97, 114, 32, 110, 59, 32, 98, 101, 103, 105, 110, 32, 114, 101, 97, 100, 32, 110, 59, 32, 119, 104, 105, 108, 101, 32, 110, 32, 62, 32, 48, 32, 100, 111, 32, 98, 101, 103, 105, 110, 32, 119, 114, 105, 116, 101, 32, 110, 59, 32, 110, 32, 58, 61, 32, 110, 32, 45, 32, 49, 32, 101, 110, 100, 32, 101, 110, 100, 46]

set_option maxRecDepth 1000000 in
theorem sq_check : checkP sqL = (0, 0) := by rw [← checkE_eq]; kernel_rfl
set_option maxRecDepth 1000000 in
theorem sq_run : outcome (treeOf sqL) [3] 20 = (0, [9, 4, 1], 11) := by rw [← treeE_eq]; kernel_rfl
set_option maxRecDepth 1000000 in
theorem sq_less : outcome (treeOf sqL) [3] 3 = (8, [9], 3) := by rw [← treeE_eq]; kernel_rfl

/-- What a call of f comes to. -/
def callO (k : Nat) : Nat × List Int × Nat := if k + 1 ≤ 30 then (0, [((k * (k + 1) / 2 : Nat) : Int)], 1 + 3 * (k + 1)) else (13, [], 91)

set_option maxRecDepth 1000000 in
theorem called_all : ((List.range 60).all fun k => decide (checkE (callA ++ digL k ++ callB) = (0, 0)) && decide (outcome (treeE (callA ++ digL k ++ callB)) [] 3000 = callO k)) = true := by kernel_rfl

theorem called_at {k : Nat} (h : k < 60) : checkP (callA ++ digL k ++ callB) = (0, 0) ∧ outcome (treeOf (callA ++ digL k ++ callB)) [] 3000 = callO k := by
  have := List.all_eq_true.1 called_all k (List.mem_range.2 h)
  rw [Bool.and_eq_true, decide_eq_true_iff, decide_eq_true_iff, checkE_eq, treeE_eq] at this
  exact this

set_option maxRecDepth 1000000 in
theorem cnt_check : checkP cntL = (0, 0) := by rw [← checkE_eq]; kernel_rfl
end Go.Proofs.YtklobognaldjpaaGreat
