/- Plain: Run by evaluation, of a text that is written out. Plain: the three programs around an expression: what Check tells of them, and what they come to. -/
import Derived.Test.YtklobognaldjpaaGreatCEv2
import Derived.Test.YtklobognaldjpaaGreatCNw1
import Derived.Test.YtklobognaldjpaaGreatCSim2
import Derived.Test.YtklobognaldjpaaGreatCSx8
namespace Go.Proofs.YtklobognaldjpaaGreat

/-- The tree, by evaluation. -/
def treeE (l : List UInt8) : Pr := match lexF l.length l (gapF l.length l 0) with
  | .ok T => (programP T ⟨0, 0, 0⟩).1
  | .error _ => ⟨[], []⟩

theorem treeE_eq (l : List UInt8) : treeE l = treeOf l := by
  unfold treeE treeOf lexAll
  rw [gapF_eq _ _ _ (by omega), lexF_eq _ _ _ (by omega)]
  rfl

/-- 'var n; begin read n; while n > 0 do begin write n * n; n := n - 1 end end.' -/
def sqL : List UInt8 := [118, 97, 114, 32, 110, 59, 32, 98, 101, 103, 105, 110, 32, 114, 101, 97, 100, 32, 110, 59, 32, 119, 104, 105, 108, 101, 32, 110, 32, 62, 32, 48, 32, 100, 111, 32, 98, 101, 103, 105, 110, 32, 119, 114, 105, 116, 101, 32, 110, 32, 42, 32, 110, 59, 32, 110, 32, 58, 61, 32, 110, 32, 45, 32, 49, 32, 101, 110, 100, 32, 101, 110, 100, 46]
set_option maxRecDepth 1000000 in
theorem sq_check : checkP sqL = (0, 0) := by rw [← checkE_eq]; kernel_rfl
set_option maxRecDepth 1000000 in
theorem sq_run : outcome (treeOf sqL) [3] 20 = (0, [9, 4, 1], 11) := by rw [← treeE_eq]; kernel_rfl
set_option maxRecDepth 1000000 in
theorem sq_less : outcome (treeOf sqL) [3] 3 = (8, [9], 3) := by rw [← treeE_eq]; kernel_rfl

end Go.Proofs.YtklobognaldjpaaGreat

namespace Go.Proofs.YtklobognaldjpaaGreat

theorem look_fx (E : Env) {ts : List (List UInt8)} {e : Ex} {v : Int} {d : Nat} (h : FX ts e v d) : lookEx E e = none := by
  induction h with
  | num n _ => rfl
  | neg _ ih => rw [lookEx]; exact ih
  | not _ ih => rw [lookEx]; exact ih
  | two k _ _ _ _ iha ihb => rw [lookEx, iha, ihb]; rfl

theorem check_of {l : List UInt8} {T : List Tok} {P : Pr} {a n : Nat} (hl : l.length ≤ 600) (hT : lexAll l = .ok T) (hP : programP T ⟨0, 0, 0⟩ = (P, ⟨0, a, n⟩)) (hk : lookPr env0 P = none) : checkP l = (0, 0) ∧ treeOf l = P := by
  constructor
  · unfold checkP
    rw [if_neg (by omega), hT]
    simp only
    rw [hP]
    simp only [if_true]
    rw [hk]
  · unfold treeOf
    rw [hT]
    simp only
    rw [hP]

def wrTA : List UInt8 := [98, 101, 103, 105, 110, 32, 119, 114, 105, 116, 101]
def wrTB : List UInt8 := [32, 101, 110, 100, 46]
def wrPA (i : Nat) : Nat := [0, 6].getD i 0
def wrPB (q i : Nat) : Nat := q + [1, 4].getD i 0
set_option maxRecDepth 1000000 in
theorem wr_la (Y : List UInt8) : lexS 2 (wrTA ++ (32 :: Y)) 0 = some (toksF wrPA [begW, wrW], 32 :: Y, 11) := by kernel_rfl
set_option maxRecDepth 1000000 in
theorem wr_lb (q : Nat) : lexS 2 wrTB q = some (toksF (wrPB q) [endW, dotW], [], q + 5) := by kernel_rfl

theorem wr_lex {ts : List (List UInt8)} {x : Ex} {v : Int} {d : Nat} (h : FX ts x v d) {t : List UInt8} (ht : 32 :: t = preW ts) : ∃ p1, lexAll (wrTA ++ ([32] ++ (t ++ wrTB))) = .ok (toksF wrPA [begW, wrW] ++ (toksF p1 ts ++ (toksF (wrPB (11 + 1 + t.length)) [endW, dotW] ++ [overAt (wrTA ++ ([32] ++ (t ++ wrTB))).length]))) := by
  obtain ⟨p1, hp⟩ := lexS_text ht 11 wrTB (fx_tok h) ⟨_, _, rfl, by left; rfl⟩ (g := [32]) (.inr rfl)
  refine ⟨p1, ?_⟩
  have := lexS_all (lexS_add _ _ (wr_la (t ++ wrTB)) (lexS_add _ _ hp (wr_lb _)))
  rw [List.append_assoc, List.append_assoc] at this
  exact this

def ifTA : List UInt8 := [98, 101, 103, 105, 110, 32, 105, 102]
def ifTB : List UInt8 := [32, 116, 104, 101, 110, 32, 119, 114, 105, 116, 101, 32, 49, 32, 101, 108, 115, 101, 32, 119, 114, 105, 116, 101, 32, 48, 32, 101, 110, 100, 46]
def ifPA (i : Nat) : Nat := [0, 6].getD i 0
def ifPB (q i : Nat) : Nat := q + [1, 6, 12, 14, 19, 25, 27, 30].getD i 0
set_option maxRecDepth 1000000 in
theorem if_la (Y : List UInt8) : lexS 2 (ifTA ++ (32 :: Y)) 0 = some (toksF ifPA [begW, ifW], 32 :: Y, 8) := by kernel_rfl
set_option maxRecDepth 1000000 in
theorem if_lb (q : Nat) : lexS 8 ifTB q = some (toksF (ifPB q) ifB, [], q + 31) := by kernel_rfl

theorem if_lex {ts : List (List UInt8)} {x : Ex} {v : Int} {d : Nat} (h : FX ts x v d) {t : List UInt8} (ht : 32 :: t = preW ts) : ∃ p1, lexAll (ifTA ++ ([32] ++ (t ++ ifTB))) = .ok (toksF ifPA [begW, ifW] ++ (toksF p1 ts ++ (toksF (ifPB (8 + 1 + t.length)) ifB ++ [overAt (ifTA ++ ([32] ++ (t ++ ifTB))).length]))) := by
  obtain ⟨p1, hp⟩ := lexS_text ht 8 ifTB (fx_tok h) ⟨_, _, rfl, by left; rfl⟩ (g := [32]) (.inr rfl)
  refine ⟨p1, ?_⟩
  have := lexS_all (lexS_add _ _ (if_la (t ++ ifTB)) (lexS_add _ _ hp (if_lb _)))
  rw [List.append_assoc, List.append_assoc] at this
  exact this

def fnTA : List UInt8 := [118, 97, 114, 32, 97, 59, 32, 102, 117, 110, 99, 32, 102, 40, 110, 41, 32, 98, 101, 103, 105, 110, 32, 102, 32, 58, 61, 32, 110, 32, 101, 110, 100, 59, 32, 98, 101, 103, 105, 110, 32, 97, 32, 58, 61, 32, 102, 40]
def fnTB : List UInt8 := [41, 59, 32, 119, 114, 105, 116, 101, 32, 97, 32, 101, 110, 100, 46]
def fnPA (i : Nat) : Nat := [0, 4, 5, 7, 12, 13, 14, 15, 17, 23, 25, 28, 30, 33, 35, 41, 43, 46, 47].getD i 0
def fnPB (q i : Nat) : Nat := q + [0, 1, 3, 9, 11, 14].getD i 0
set_option maxRecDepth 1000000 in
theorem fn_la (Y : List UInt8) : lexS 19 (fnTA ++ (Y)) 0 = some (toksF fnPA fnA, Y, 48) := by kernel_rfl
set_option maxRecDepth 1000000 in
theorem fn_lb (q : Nat) : lexS 6 fnTB q = some (toksF (fnPB q) fnB, [], q + 15) := by kernel_rfl

theorem fn_lex {ts : List (List UInt8)} {x : Ex} {v : Int} {d : Nat} (h : FX ts x v d) {t : List UInt8} (ht : 32 :: t = preW ts) : ∃ p1, lexAll (fnTA ++ ([] ++ (t ++ fnTB))) = .ok (toksF fnPA fnA ++ (toksF p1 ts ++ (toksF (fnPB (48 + 0 + t.length)) fnB ++ [overAt (fnTA ++ ([] ++ (t ++ fnTB))).length]))) := by
  obtain ⟨p1, hp⟩ := lexS_text ht 48 fnTB (fx_tok h) ⟨_, _, rfl, by right; rfl⟩ (g := []) (.inl rfl)
  refine ⟨p1, ?_⟩
  have := lexS_all (lexS_add _ _ (fn_la (t ++ fnTB)) (lexS_add _ _ hp (fn_lb _)))
  rw [List.append_assoc, List.append_assoc] at this
  exact this


theorem wr_sums {ts : List (List UInt8)} {x : Ex} {v : Int} {d : Nat} (h : FX ts x v d) (hd : d ≤ 12) {t : List UInt8} (ht : 32 :: t = preW ts) (hl : t.length ≤ 400) :
    checkP (wrTA ++ ([32] ++ (t ++ wrTB))) = (0, 0) ∧ outcome (treeOf (wrTA ++ ([32] ++ (t ++ wrTB)))) [] 1 = (0, [v], 1) := by
  obtain ⟨p1, hx⟩ := wr_lex h ht
  obtain ⟨h1, h2⟩ := check_of (by simp [wrTA, wrTB]; omega) hx (wr_read h (by omega) _ _ _ _) (by unfold lookPr; rw [lookGls, lookSts, lookSt, look_fx _ h]; rfl)
  refine ⟨h1, ?_⟩
  rw [h2]
  unfold outcome runPr
  have e : runSts 1 (callR 1 [] 30) [.write x] (start ⟨[], [.write x]⟩ []) = ⟨[], [], [], [v], 1, none⟩ := by
    rw [runSts, runSt, eval_fx _ (by rfl) h]
    rfl
  rw [e]

theorem if_sums {ts : List (List UInt8)} {x : Ex} {v : Int} {d : Nat} (h : FX ts x v d) (hd : d ≤ 12) {t : List UInt8} (ht : 32 :: t = preW ts) (hl : t.length ≤ 400) :
    checkP (ifTA ++ ([32] ++ (t ++ ifTB))) = (0, 0) ∧ outcome (treeOf (ifTA ++ ([32] ++ (t ++ ifTB)))) [] 2 = (0, [truthV (v != 0)], 2) := by
  obtain ⟨p1, hx⟩ := if_lex h ht
  obtain ⟨h1, h2⟩ := check_of (by simp [ifTA, ifTB]; omega) hx (if_read h (by omega) _ _ _ _) (by unfold lookPr; rw [lookGls, lookSts, lookSt, look_fx _ h]; rfl)
  refine ⟨h1, ?_⟩
  rw [h2]
  unfold outcome runPr
  have e : runSts 2 (callR 2 [] 30) [.ite x (.write (.num 1)) (.write (.num 0))] (start ⟨[], [.ite x (.write (.num 1)) (.write (.num 0))]⟩ []) = ⟨[], [], [], [truthV (v != 0)], 2, none⟩ := by
    rw [runSts, runSt, eval_fx _ (by rfl) h]
    by_cases hv : v = 0
    · subst hv; rfl
    · have hv2 : (v != 0) = true := by simp [hv]
      simp only [ne_eq, hv, not_false_eq_true, if_true, hv2]
      rfl
  rw [e]

set_option maxRecDepth 1000000 in
theorem fn_look (p : Nat → Nat) (q r s : Nat) : lookGls env0 (fnG p) = ((lookGls env0 (fnG fun _ => 0)).1, none) ∧ assignF (lookGls env0 (fnG fun _ => 0)).1 nA q = none ∧ callF (lookGls env0 (fnG fun _ => 0)).1 nF r 3 1 = none ∧ lookSt (lookGls env0 (fnG fun _ => 0)).1 (.write (.var nA s)) = none := by
  refine ⟨by kernel_rfl, by kernel_rfl, by kernel_rfl, by kernel_rfl⟩

set_option maxRecDepth 1000000 in
theorem fn_sums {ts : List (List UInt8)} {x : Ex} {v : Int} {d : Nat} (h : FX ts x v d) (hd : d ≤ 12) {t : List UInt8} (ht : 32 :: t = preW ts) (hl : t.length ≤ 400) :
    checkP (fnTA ++ ([] ++ (t ++ fnTB))) = (0, 0) ∧ outcome (treeOf (fnTA ++ ([] ++ (t ++ fnTB)))) [] 9 = (0, [v], 4) := by
  obtain ⟨p1, hx⟩ := fn_lex h ht
  generalize fnPB _ = p2 at hx
  generalize fnPA = p at hx
  obtain ⟨k1, k2, k3, k4⟩ := fn_look p (p 15) (p 17) (p2 3)
  obtain ⟨h1, h2⟩ := check_of (by simp [fnTA, fnTB]; omega) hx (fn_read h hd _ _ _ _) (by
    unfold lookPr
    rw [k1]
    simp only
    rw [lookSts, lookSts, lookSts, k4, lookSt, k2, lookEx, lookExs, lookExs, look_fx _ h]
    show (none.or ((none.or ((callF _ nF (p 17) 3 1).or (none.or none))).or (none.or none))) = none
    rw [k3]
    rfl)
  refine ⟨h1, ?_⟩
  rw [h2]
  unfold outcome runPr
  have e : runSts 9 (callR 9 (fnG p) 30) [.assign nA (p 15) (.call nF (p 17) [x]), .write (.var nA (p2 3))] (start ⟨fnG p, [.assign nA (p 15) (.call nF (p 17) [x]), .write (.var nA (p2 3))]⟩ []) = ⟨[⟨nA, [v]⟩, ⟨nF, []⟩], [], [], [v], 4, none⟩ := by
    have e1 : ∀ s, s.stop = none → evalExs (callR 9 (fnG p) 30) [x] s = ([v], s) := fun s hs => by
      rw [evalExs, eval_fx _ hs h]
      show (if s.stop.isSome then _ else _) = _
      rw [hs]
      rfl
    rw [runSts, runSt, evalEx, e1 _ (by rfl)]
    show _ = _
    kernel_rfl
  rw [e]

end Go.Proofs.YtklobognaldjpaaGreat
