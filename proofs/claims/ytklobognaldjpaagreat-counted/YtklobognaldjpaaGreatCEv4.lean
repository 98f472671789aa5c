/- Plain: the loop that counts. -/
import Derived.Test.YtklobognaldjpaaGreatCEv3
namespace Go.Proofs.YtklobognaldjpaaGreat

def nB : ByteArray := ⟨#[110]⟩
/-- What is tested, what is done in a round. -/
def cntC : Ex := .bin ⟨#[62]⟩ (.var nB 27) (.num 0)
def cntS : St := .block [.write (.var nB 48), .assign nB 51 (.bin ⟨#[45]⟩ (.var nB 56) (.num 1))]
def cntT : Pr := ⟨[.var nB 4], [.read nB 18, .loop cntC cntS]⟩

set_option maxRecDepth 1000000 in
theorem cnt_tree : treeOf cntL = cntT := by rw [← treeE_eq]; kernel_rfl

/-- What is known in the loop. -/
def cntR (m : Nat) (out : List Int) (used : Nat) (stop : Option Nat) : RS := ⟨[⟨nB, [(m : Int)]⟩], [], [], out, used, stop⟩

variable (B : Nat) (call : Bool → ByteArray → List Int → RS → Int × RS)

theorem cnt_test (m : Nat) (out : List Int) (used : Nat) : evalEx call cntC (cntR m out used none) = (truthV (decide (0 < m)), cntR m out used none) := by
  simp [cntC, evalEx, cntR, RS.get, hereIx, globIx, eqB, nB, isW, binV]

theorem cnt_unit (m : Nat) (out : List Int) (used : Nat) : (cntR m out used none).unit B = if B ≤ used then cntR m out used (some 0) else cntR m out (used + 1) none := by
  unfold RS.unit cntR RS.fail
  split <;> rfl

theorem cnt_write (m : Nat) (out : List Int) (used : Nat) (ho : out.length < 60) : runSt B call (.write (.var nB 48)) (cntR m out used none) = if B ≤ used then cntR m out used (some 0) else cntR m (out ++ [(m : Int)]) (used + 1) none := by
  rw [runSt, cnt_unit]
  split
  · simp [cntR]
  · have : ¬ 60 ≤ out.length := by omega
    simp [cntR, evalEx, RS.get, hereIx, globIx, eqB, nB, this]

theorem wrap_small {m : Nat} (h : m ≤ 50) : wrapV ((m + 1 : Nat) - 1) = (m : Int) := by
  unfold wrapV Int.bmod
  simp only
  split <;> omega

theorem cnt_assign (m : Nat) (out : List Int) (used : Nat) (hm : m ≤ 50) : runSt B call (.assign nB 51 (.bin ⟨#[45]⟩ (.var nB 56) (.num 1))) (cntR (m + 1) out used none) = if B ≤ used then cntR (m + 1) out used (some 0) else cntR m out (used + 1) none := by
  have hw := wrap_small hm
  rw [runSt, cnt_unit]
  split
  · simp [cntR]
  · have e : evalEx call (.bin ⟨#[45]⟩ (.var nB 56) (.num 1)) (cntR (m + 1) out (used + 1) none) = ((m : Int), cntR (m + 1) out (used + 1) none) := by
      simp only [evalEx, cntR, RS.get, hereIx, globIx, eqB, nB, isW, binV]
      simp
      simpa using hw
    rw [e]
    simp [cntR, RS.set, hereIx, globIx, eqB, nB]

theorem cnt_body (m : Nat) (out : List Int) (used : Nat) (hm : m ≤ 50) (ho : out.length < 60) : runSt B call cntS (cntR (m + 1) out used none) =
    if B ≤ used then cntR (m + 1) out used (some 0) else if B ≤ used + 1 then cntR (m + 1) (out ++ [((m + 1 : Nat) : Int)]) (used + 1) (some 0) else cntR m (out ++ [((m + 1 : Nat) : Int)]) (used + 2) none := by
  unfold cntS
  rw [runSt, runSts, cnt_write B call _ _ _ ho]
  by_cases h1 : B ≤ used
  · rw [if_pos h1, if_pos h1]; rfl
  · rw [if_neg h1, if_neg h1]
    have e0 : (cntR (m + 1) (out ++ [((m + 1 : Nat) : Int)]) (used + 1) none).stop.isSome = false := rfl
    rw [e0, if_neg (by simp), runSts, cnt_assign B call _ _ _ hm]
    by_cases h2 : B ≤ used + 1
    · simp only [if_pos h2]; rfl
    · simp only [if_neg h2]; rfl

/-- m, and so on down to 1. -/
def down : Nat → List Int
  | 0 => []
  | m + 1 => ((m + 1 : Nat) : Int) :: down m

/-- How many are written in so many units. -/
def wrt (r : Nat) : Nat := r / 3 + if r % 3 = 2 then 1 else 0

theorem loop_cnt : ∀ (m : Nat) (out : List Int) (used r j : Nat), out.length + m ≤ 60 → m ≤ 50 → r < j → B = used + r →
    (3 * m + 1 ≤ r → loopR B (evalEx call cntC) (runSt B call cntS) j (cntR m out used none) = cntR 0 (out ++ down m) (used + 3 * m + 1) none) ∧
    (r < 3 * m + 1 → ∃ m', loopR B (evalEx call cntC) (runSt B call cntS) j (cntR m out used none) = cntR m' (out ++ (down m).take (wrt r)) B (some 0))
  | m, out, used, r, 0, _, _, hj, _ => by omega
  | 0, out, used, r, j + 1, ho, hm, hj, hB => by
    rw [loopR, cnt_unit]
    by_cases h0 : B ≤ used
    · have : r = 0 := by omega
      subst this
      rw [if_pos h0]
      refine ⟨fun h => by omega, fun _ => ⟨0, ?_⟩⟩
      have e : (cntR 0 out used (some 0)).stop.isSome = true := rfl
      rw [if_pos e]
      simp [down, show B = used by omega]
    · rw [if_neg h0]
      have e : (cntR 0 out (used + 1) none).stop.isSome = false := rfl
      rw [e, if_neg (by simp), cnt_test]
      refine ⟨fun h => ?_, fun h => by omega⟩
      simp [truthV, down, cntR]
  | m + 1, out, used, r, j + 1, ho, hm, hj, hB => by
    rw [loopR, cnt_unit]
    by_cases h0 : B ≤ used
    · have : r = 0 := by omega
      subst this
      rw [if_pos h0]
      refine ⟨fun h => by omega, fun _ => ⟨m + 1, ?_⟩⟩
      have e : (cntR (m + 1) out used (some 0)).stop.isSome = true := rfl
      rw [if_pos e]
      simp [wrt, show B = used by omega]
    · rw [if_neg h0]
      have e : (cntR (m + 1) out (used + 1) none).stop.isSome = false := rfl
      have e2 : truthV (decide (0 < m + 1)) = 1 := by simp [truthV]
      rw [e, if_neg (by simp), cnt_test]
      dsimp only
      rw [e, e2, if_neg (by simp), if_neg (by simp), cnt_body B call m out (used + 1) (by omega) (by omega)]
      by_cases h1 : B ≤ used + 1
      · have : r = 1 := by omega
        subst this
        rw [if_pos h1]
        refine ⟨fun h => by omega, fun _ => ⟨m + 1, ?_⟩⟩
        have e : (cntR (m + 1) out (used + 1) (some 0)).stop.isSome = true := rfl
        rw [if_pos e]
        simp [wrt, show B = used + 1 by omega]
      · rw [if_neg h1]
        by_cases h2 : B ≤ used + 1 + 1
        · have : r = 2 := by omega
          subst this
          rw [if_pos h2]
          refine ⟨fun h => by omega, fun _ => ⟨m + 1, ?_⟩⟩
          have e : (cntR (m + 1) (out ++ [((m + 1 : Nat) : Int)]) (used + 1 + 1) (some 0)).stop.isSome = true := rfl
          rw [if_pos e]
          simp [wrt, down, show B = used + 1 + 1 by omega]
        · rw [if_neg h2]
          have e : (cntR m (out ++ [((m + 1 : Nat) : Int)]) (used + 1 + 2) none).stop.isSome = false := rfl
          rw [e, if_neg (by simp)]
          obtain ⟨r3, rfl⟩ : ∃ r3, r = r3 + 3 := ⟨r - 3, by omega⟩
          obtain ⟨g1, g2⟩ := loop_cnt m (out ++ [((m + 1 : Nat) : Int)]) (used + 1 + 2) r3 j (by simp; omega) (by omega) (by omega) (by omega)
          refine ⟨fun h => ?_, fun h => ?_⟩
          · rw [g1 (by omega), List.append_assoc, show used + 1 + 2 + 3 * m + 1 = used + 3 * (m + 1) + 1 by omega]; rfl
          · obtain ⟨m', hm'⟩ := g2 (by omega)
            refine ⟨m', ?_⟩
            rw [hm', List.append_assoc]
            have : wrt (r3 + 3) = wrt r3 + 1 := by unfold wrt; rw [Nat.add_mod_right]; omega
            rw [this]
            rfl

/-- What it comes to. -/
def cntO (k f : Nat) : Nat × List Int × Nat := if 3 * k + 2 ≤ f then (0, down k, 3 * k + 2) else (8, (down k).take (if f = 0 then 0 else wrt (f - 1)), f)

theorem cnt_read (k : Nat) : runSt B call (.read nB 18) ⟨[⟨nB, [0]⟩], [], [(k : Int)], [], 0, none⟩ = if B = 0 then ⟨[⟨nB, [0]⟩], [], [(k : Int)], [], 0, some 0⟩ else cntR k [] 1 none := by
  rw [runSt]
  by_cases h0 : B = 0
  · subst h0; simp [RS.unit, RS.fail]
  · have : ¬ B ≤ 0 := by omega
    have e : RS.unit B ⟨[⟨nB, [0]⟩], [], [(k : Int)], [], 0, none⟩ = ⟨[⟨nB, [0]⟩], [], [(k : Int)], [], 1, none⟩ := by simp [RS.unit, h0]
    rw [e, if_neg h0]
    simp [RS.set, hereIx, globIx, eqB, nB, cntR]

theorem cnt_runPr (k f : Nat) : runPr cntT [(k : Int)] f = if f = 0 then ⟨[⟨nB, [0]⟩], [], [(k : Int)], [], 0, some 0⟩ else loopR f (evalEx (callR f cntT.globals 30) cntC) (runSt f (callR f cntT.globals 30) cntS) (f + 2) (cntR k [] 1 none) := by
  unfold runPr
  generalize callR f cntT.globals 30 = call
  have e : start cntT [(k : Int)] = ⟨[⟨nB, [0]⟩], [], [(k : Int)], [], 0, none⟩ := rfl
  have e2 : cntT.body = [.read nB 18, .loop cntC cntS] := rfl
  rw [e, e2, runSts, cnt_read]
  by_cases h0 : f = 0
  · rw [if_pos h0, if_pos h0]; rfl
  · rw [if_neg h0]
    have e3 : (cntR k [] 1 none).stop.isSome = false := rfl
    rw [e3, if_neg (by simp), runSts, runSt, runSts, if_neg h0]
    split <;> rfl

theorem cnt_out {k : Nat} (hk : k ≤ 50) (f : Nat) : outcome (treeOf cntL) [(k : Int)] f = cntO k f := by
  rw [cnt_tree]
  have hr := cnt_runPr k f
  generalize callR f cntT.globals 30 = call at hr
  by_cases h0 : f = 0
  · rw [if_pos h0] at hr
    unfold outcome cntO
    rw [hr, if_neg (by omega), if_pos h0, h0]
    rfl
  · rw [if_neg h0] at hr
    obtain ⟨g1, g2⟩ := loop_cnt f call k [] 1 (f - 1) (f + 2) (by simp; omega) hk (by omega) (by omega)
    unfold outcome cntO
    by_cases h1 : 3 * k + 2 ≤ f
    · rw [hr, g1 (by omega), if_pos h1]
      simp [cntR]
      omega
    · obtain ⟨m', hm'⟩ := g2 (by omega)
      rw [hr, hm', if_neg h1, if_neg h0]
      rfl

end Go.Proofs.YtklobognaldjpaaGreat
