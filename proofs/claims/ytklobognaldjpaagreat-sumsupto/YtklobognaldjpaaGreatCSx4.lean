/- Plain: two factors with an operator between them are read. Plain: an expression out of numbers: its tokens, its tree, what it comes to. Plain: a factor is read back. Plain: a number's digits are a token. -/
import Derived.Test.YtklobognaldjpaaGreatCPure5
import Derived.Test.YtklobognaldjpaaGreatCSim2
import Derived.Test.YtklobognaldjpaaGreatCEv2
import Derived.Test.YtklobognaldjpaaGreatCLes2
namespace Go.Proofs.YtklobognaldjpaaGreat

section
variable {T : List Tok} {fac part : PS → Ex × PS} {fs : List ByteArray} {s s1 s2 : PS} {x y : Ex}

theorem chain_pass (h : part s = (x, s1)) (h1 : seesAny T fs s1 = false) : chain T part fs s = (x, s1) := by
  unfold chain
  rw [h]
  cases T.length with
  | zero => rfl
  | succ n => rw [chainLoop, h1]; rfl

theorem chain_bin (hT : 2 ≤ T.length) (h : part s = (x, s1)) (h1 : seesAny T fs s1 = true) (h2 : part (adv s1) = (y, s2)) (h3 : seesAny T fs s2 = false) : chain T part fs s = (.bin (cur T s1).text x y, s2) := by
  unfold chain
  rw [h]
  obtain ⟨n, hn⟩ : ∃ n, T.length = n + 2 := ⟨T.length - 2, by omega⟩
  rw [hn, chainLoop, if_pos h1, h2, chainLoop, h3]
  rfl

theorem test_pass (h : part s = (x, s1)) (h1 : seesAny T testOps s1 = false) : testP T part s = (x, s1) := by
  unfold testP
  rw [h, h1]
  rfl

theorem test_bin (h : part s = (x, s1)) (h1 : seesAny T testOps s1 = true) (h2 : part (adv s1) = (y, s2)) : testP T part s = (.bin (cur T s1).text x y, s2) := by
  unfold testP
  rw [h, if_pos h1, h2]

/-- No operator stands here. -/
structure NoOp (T : List Tok) (s : PS) : Prop where
  mul : seesAny T mulOps s = false
  add : seesAny T addOps s = false
  test : seesAny T testOps s = false
  and_ : seesAny T andOps s = false
  or_ : seesAny T orOps s = false

/-- A factor alone. -/
theorem expr_one (h : fac s = (x, s1)) (hn : NoOp T s1) : exprOf T fac s = (x, s1) :=
  chain_pass (chain_pass (test_pass (chain_pass (chain_pass h hn.mul) hn.add) hn.test) hn.and_) hn.or_

theorem expr_mul (hT : 2 ≤ T.length) (h : fac s = (x, s1)) (h1 : seesAny T mulOps s1 = true) (h2 : fac (adv s1) = (y, s2)) (hn : NoOp T s2) : exprOf T fac s = (.bin (cur T s1).text x y, s2) :=
  chain_pass (chain_pass (test_pass (chain_pass (chain_bin hT h h1 h2 hn.mul) hn.add) hn.test) hn.and_) hn.or_

theorem expr_add (hT : 2 ≤ T.length) (h : fac s = (x, s1)) (h0 : seesAny T mulOps s1 = false) (h1 : seesAny T addOps s1 = true) (h2 : fac (adv s1) = (y, s2)) (hn : NoOp T s2) : exprOf T fac s = (.bin (cur T s1).text x y, s2) :=
  chain_pass (chain_pass (test_pass (chain_bin hT (chain_pass h h0) h1 (chain_pass h2 hn.mul) hn.add) hn.test) hn.and_) hn.or_

theorem expr_test (h : fac s = (x, s1)) (h0 : seesAny T mulOps s1 = false) (h00 : seesAny T addOps s1 = false) (h1 : seesAny T testOps s1 = true) (h2 : fac (adv s1) = (y, s2)) (hn : NoOp T s2) : exprOf T fac s = (.bin (cur T s1).text x y, s2) :=
  chain_pass (chain_pass (test_bin (chain_pass (chain_pass h h0) h00) h1 (chain_pass (chain_pass h2 hn.mul) hn.add)) hn.and_) hn.or_

theorem expr_and (hT : 2 ≤ T.length) (h : fac s = (x, s1)) (h0 : seesAny T mulOps s1 = false) (h00 : seesAny T addOps s1 = false) (h01 : seesAny T testOps s1 = false) (h1 : seesAny T andOps s1 = true) (h2 : fac (adv s1) = (y, s2)) (hn : NoOp T s2) : exprOf T fac s = (.bin (cur T s1).text x y, s2) :=
  chain_pass (chain_bin hT (test_pass (chain_pass (chain_pass h h0) h00) h01) h1 (test_pass (chain_pass (chain_pass h2 hn.mul) hn.add) hn.test) hn.and_) hn.or_

theorem expr_or (hT : 2 ≤ T.length) (h : fac s = (x, s1)) (h0 : seesAny T mulOps s1 = false) (h00 : seesAny T addOps s1 = false) (h01 : seesAny T testOps s1 = false) (h02 : seesAny T andOps s1 = false) (h1 : seesAny T orOps s1 = true) (h2 : fac (adv s1) = (y, s2)) (hn : NoOp T s2) : exprOf T fac s = (.bin (cur T s1).text x y, s2) :=
  chain_bin hT (chain_pass (test_pass (chain_pass (chain_pass h h0) h00) h01) h02) h1 (chain_pass (test_pass (chain_pass (chain_pass h2 hn.mul) hn.add) hn.test) hn.and_) hn.or_

theorem sees_all {t : List UInt8} (h : (cur T s).text.toList = t) : seesAny T fs s = fs.any fun f => t == f.toList := by
  unfold seesAny sees
  rw [h]

end

end Go.Proofs.YtklobognaldjpaaGreat

namespace Go.Proofs.YtklobognaldjpaaGreat

/-- The operators of two operands. -/
def sgnL (k : Nat) : List UInt8 := [[43], [45], [42], [47], [37], [61], [35], [60], [62], [97, 110, 100], [111, 114]].getD k [111, 114]

/-- What an operator tells of two values; false: it may not be. -/
def twoV (k : Nat) (x y : Int) : Int × Bool := match k with
  | 0 => (wrapV (x + y), true)
  | 1 => (wrapV (x - y), true)
  | 2 => (wrapV (x * y), true)
  | 3 => if y = 0 then (0, false) else (wrapV (x.tdiv y), true)
  | 4 => if y = 0 then (0, false) else (wrapV (x.tmod y), true)
  | 5 => (truthV (x == y), true)
  | 6 => (truthV (x != y), true)
  | 7 => (truthV (decide (x < y)), true)
  | 8 => (truthV (decide (x > y)), true)
  | 9 => (truthV (x != 0 && y != 0), true)
  | _ => (truthV (x != 0 || y != 0), true)


theorem noop_shut {T : List Tok} {s : PS} (h : (cur T s).text.toList = [41]) : NoOp T s := by
  constructor <;> (rw [sees_all h]; kernel_rfl)

theorem expr_sgn {T : List Tok} {fac : PS → Ex × PS} {s s1 s2 : PS} {x y : Ex} {k : Nat} (hk : k < 11) (hT : 2 ≤ T.length) (h : fac s = (x, s1)) (h1 : (cur T s1).text.toList = sgnL k) (h2 : fac (adv s1) = (y, s2)) (hn : NoOp T s2) : exprOf T fac s = (.bin (cur T s1).text x y, s2) := by
  have hk' : k = 0 ∨ k = 1 ∨ k = 2 ∨ k = 3 ∨ k = 4 ∨ k = 5 ∨ k = 6 ∨ k = 7 ∨ k = 8 ∨ k = 9 ∨ k = 10 := by omega
  rcases hk' with rfl | rfl | rfl | rfl | rfl | rfl | rfl | rfl | rfl | rfl | rfl
  · exact expr_add hT h (by rw [sees_all h1]; kernel_rfl) (by rw [sees_all h1]; kernel_rfl) h2 hn
  · exact expr_add hT h (by rw [sees_all h1]; kernel_rfl) (by rw [sees_all h1]; kernel_rfl) h2 hn
  · exact expr_mul hT h (by rw [sees_all h1]; kernel_rfl) h2 hn
  · exact expr_mul hT h (by rw [sees_all h1]; kernel_rfl) h2 hn
  · exact expr_mul hT h (by rw [sees_all h1]; kernel_rfl) h2 hn
  · exact expr_test h (by rw [sees_all h1]; kernel_rfl) (by rw [sees_all h1]; kernel_rfl) (by rw [sees_all h1]; kernel_rfl) h2 hn
  · exact expr_test h (by rw [sees_all h1]; kernel_rfl) (by rw [sees_all h1]; kernel_rfl) (by rw [sees_all h1]; kernel_rfl) h2 hn
  · exact expr_test h (by rw [sees_all h1]; kernel_rfl) (by rw [sees_all h1]; kernel_rfl) (by rw [sees_all h1]; kernel_rfl) h2 hn
  · exact expr_test h (by rw [sees_all h1]; kernel_rfl) (by rw [sees_all h1]; kernel_rfl) (by rw [sees_all h1]; kernel_rfl) h2 hn
  · exact expr_and hT h (by rw [sees_all h1]; kernel_rfl) (by rw [sees_all h1]; kernel_rfl) (by rw [sees_all h1]; kernel_rfl) (by rw [sees_all h1]; kernel_rfl) h2 hn
  · exact expr_or hT h (by rw [sees_all h1]; kernel_rfl) (by rw [sees_all h1]; kernel_rfl) (by rw [sees_all h1]; kernel_rfl) (by rw [sees_all h1]; kernel_rfl) (by rw [sees_all h1]; kernel_rfl) h2 hn

/-- A factor: its tokens' texts, its tree, its value, how deep it goes. -/
inductive FX : List (List UInt8) → Ex → Int → Nat → Prop
  | num (n : Nat) : n ≤ 2147483647 → FX [digL n] (.num n) n 1
  | neg {ts : List (List UInt8)} {e : Ex} {v : Int} {d : Nat} : FX ts e v d → FX ([45] :: ts) (.un (bs [45]) e) (wrapV (-v)) (d + 1)
  | not {ts : List (List UInt8)} {e : Ex} {v : Int} {d : Nat} : FX ts e v d → FX ([110, 111, 116] :: ts) (.un (bs [110, 111, 116]) e) (truthV (v == 0)) (d + 1)
  | two {ta tb : List (List UInt8)} {x y : Ex} {a b v : Int} {da db : Nat} (k : Nat) : k < 11 → FX ta x a da → FX tb y b db → twoV k a b = (v, true) → FX ([40] :: (ta ++ (sgnL k :: (tb ++ [[41]])))) (.bin (bs (sgnL k)) x y) v (1 + max da db)

theorem isW_bs (a b : List UInt8) : isW (bs a) b = (a == b) := by
  unfold isW
  rw [bsl']

theorem eval_two (call : Bool → ByteArray → List Int → RS → Int × RS) {k : Nat} (hk : k < 11) {x y : Ex} {a b v : Int} {s : RS} (hs : s.stop = none) (hx : evalEx call x s = (a, s)) (hy : evalEx call y s = (b, s)) (h : twoV k a b = (v, true)) : evalEx call (.bin (bs (sgnL k)) x y) s = (v, s) := by
  have e0 : s.stop.isSome = false := by rw [hs]; rfl
  rw [evalEx]
  simp only [hx, hy, e0, isW_bs, binV]
  have hk' : k = 0 ∨ k = 1 ∨ k = 2 ∨ k = 3 ∨ k = 4 ∨ k = 5 ∨ k = 6 ∨ k = 7 ∨ k = 8 ∨ k = 9 ∨ k = 10 := by omega
  rcases hk' with rfl | rfl | rfl | rfl | rfl | rfl | rfl | rfl | rfl | rfl | rfl
  · simp [sgnL, twoV, List.getD] at h ⊢; exact h
  · simp [sgnL, twoV, List.getD] at h ⊢; exact h
  · simp [sgnL, twoV, List.getD] at h ⊢; exact h
  · by_cases hb : b = 0
    · subst hb; simp [twoV] at h
    · simp [sgnL, twoV, List.getD, hb] at h ⊢; exact h
  · by_cases hb : b = 0
    · subst hb; simp [twoV] at h
    · simp [sgnL, twoV, List.getD, hb] at h ⊢; exact h
  · simp [sgnL, twoV, List.getD] at h ⊢; exact h
  · simp [sgnL, twoV, List.getD] at h ⊢; exact h
  · simp [sgnL, twoV, List.getD] at h ⊢; exact h
  · simp [sgnL, twoV, List.getD] at h ⊢; exact h
  · by_cases ha : a = 0
    · subst ha; simp [sgnL, twoV, List.getD, truthV] at h ⊢; exact h
    · simp [sgnL, twoV, List.getD, ha, truthV] at h ⊢; exact h
  · by_cases ha : a = 0
    · subst ha; simp [sgnL, twoV, List.getD, truthV] at h ⊢; exact h
    · simp [sgnL, twoV, List.getD, ha, truthV] at h ⊢; exact h

/-- What a factor comes to. -/
theorem eval_fx (call : Bool → ByteArray → List Int → RS → Int × RS) {s : RS} (hs : s.stop = none) {ts : List (List UInt8)} {e : Ex} {v : Int} {d : Nat} (h : FX ts e v d) : evalEx call e s = (v, s) := by
  induction h with
  | num n _ => rfl
  | neg _ ih => rw [evalEx, ih, isW_bs]; rfl
  | not _ ih => rw [evalEx, ih, isW_bs]; rfl
  | two k hk _ _ hv ha hb => exact eval_two call hk hs ha hb hv

end Go.Proofs.YtklobognaldjpaaGreat

namespace Go.Proofs.YtklobognaldjpaaGreat

theorem cur_drop {T : List Tok} {i a c : Nat} {t : Tok} {X : List Tok} (h : T.drop i = t :: X) : cur T ⟨c, a, i⟩ = t := by
  unfold cur
  have : T[i]? = some t := by
    have e : (T.drop i)[0]? = T[i + 0]? := List.getElem?_drop
    rw [h] at e
    simpa using e.symm
  simp [List.getD, this]

theorem drop_one {T : List Tok} {i : Nat} {t : Tok} {X : List Tok} (h : T.drop i = t :: X) : T.drop (i + 1) = X := by
  rw [← List.drop_drop, h]; rfl

theorem fac_un {T : List Tok} {k a i : Nat} {t : Tok} {X : List Tok} {e : Ex} {s2 : PS} {f : List UInt8} (hf : f = [45] ∨ f = [110, 111, 116]) (h : T.drop i = t :: X) (h1 : t.kind = (tkOf f).1) (h2 : t.text = bs f) (h3 : factorD T k ⟨0, a, i + 1⟩ = (e, s2)) : factorD T (k + 1) ⟨0, a, i⟩ = (.un (bs f) e, s2) := by
  have hc : cur T ⟨0, a, i⟩ = t := cur_drop h
  have ha : adv ⟨0, a, i⟩ = ⟨0, a, i + 1⟩ := rfl
  rw [factorD]
  unfold kindIs sees
  rw [hc, h1, h2, ha, h3]
  rcases hf with rfl | rfl
  · rw [if_neg (by decide +kernel), if_neg (by decide +kernel), if_neg (by decide +kernel), if_pos (by decide +kernel)]
  · rw [if_neg (by decide +kernel), if_neg (by decide +kernel), if_neg (by decide +kernel), if_neg (by decide +kernel), if_pos (by decide +kernel)]

theorem fac_open {T : List Tok} {k a i : Nat} {t : Tok} {X : List Tok} {e : Ex} {s2 : PS} (h : T.drop i = t :: X) (h1 : t.kind = (tkOf [40]).1) (h2 : t.text = bs [40]) (h3 : exprOf T (factorD T k) ⟨0, a, i + 1⟩ = (e, s2)) : factorD T (k + 1) ⟨0, a, i⟩ = (e, want T (bs [41]) s2) := by
  have hc : cur T ⟨0, a, i⟩ = t := cur_drop h
  have ha : adv ⟨0, a, i⟩ = ⟨0, a, i + 1⟩ := rfl
  rw [factorD]
  unfold kindIs
  rw [hc, h1, ha, h3, if_neg (by decide +kernel), if_neg (by decide +kernel)]
  have hs : sees T (bs [40]) ⟨0, a, i⟩ = true := by unfold sees; rw [hc, h2]; decide +kernel
  rw [if_pos hs]

theorem fac_num {T : List Tok} {k a i : Nat} {t : Tok} {X : List Tok} (h : T.drop i = t :: X) (h1 : t.kind = .number) : factorD T (k + 1) ⟨0, a, i⟩ = (.num t.val, ⟨0, a, i + 1⟩) := by
  have hc : cur T ⟨0, a, i⟩ = t := cur_drop h
  have hk : kindIs T .number ⟨0, a, i⟩ = true := by unfold kindIs; rw [hc, h1]; rfl
  rw [factorD, if_pos hk]
  unfold numP
  rw [if_pos hk, hc]
  rfl

theorem drop_some {T A Y : List Tok} {j n : Nat} (h : T.drop j = A ++ Y) (hn : A.length = n) : T.drop (j + n) = Y := by
  rw [← List.drop_drop, h, ← hn, List.drop_left]

theorem read_fx (hd : ∀ n, n ≤ 2147483647 → tkOf (digL n) = (.number, n)) {ts : List (List UInt8)} {e : Ex} {v : Int} {d : Nat} (h : FX ts e v d) :
    ∀ (T : List Tok) (p : Nat → Nat) (X : List Tok) (i a k : Nat), T.drop i = toksF p ts ++ X → d ≤ k → factorD T k ⟨0, a, i⟩ = (e, ⟨0, a, i + ts.length⟩) := by
  induction h with
  | num n hn =>
    intro T p X i a k h hk
    obtain ⟨k, rfl⟩ : ∃ k', k = k' + 1 := ⟨k - 1, by omega⟩
    have h' : T.drop i = ⟨(tkOf (digL n)).1, ⟨(digL n).toArray⟩, (tkOf (digL n)).2, p 0⟩ :: X := h
    rw [fac_num h' (by show (tkOf (digL n)).1 = _; rw [hd n hn])]
    show (Ex.num (tkOf (digL n)).2, _) = _
    rw [hd n hn]
    rfl
  | @neg ts e v d _ ih =>
    intro T p X i a k h hk
    obtain ⟨k, rfl⟩ : ∃ k', k = k' + 1 := ⟨k - 1, by omega⟩
    rw [fac_un (.inl rfl) h rfl rfl (ih T (fun j => p (j + 1)) X (i + 1) a k (drop_one h) (by omega))]
    rw [List.length_cons, show i + 1 + ts.length = i + (ts.length + 1) by omega]
  | @not ts e v d _ ih =>
    intro T p X i a k h hk
    obtain ⟨k, rfl⟩ : ∃ k', k = k' + 1 := ⟨k - 1, by omega⟩
    rw [fac_un (.inr rfl) h rfl rfl (ih T (fun j => p (j + 1)) X (i + 1) a k (drop_one h) (by omega))]
    rw [List.length_cons, show i + 1 + ts.length = i + (ts.length + 1) by omega]
  | @two ta tb x y av bv v da db kk hkk _ _ _ iha ihb =>
    intro T p X i a k h hk
    obtain ⟨k, rfl⟩ : ∃ k', k = k' + 1 := ⟨k - 1, by omega⟩
    have h0 : T.drop (i + 1) = toksF (fun j => p (j + 1)) (ta ++ (sgnL kk :: (tb ++ [[41]]))) ++ X := drop_one h
    rw [toksF_append, List.append_assoc] at h0
    have ra := iha T _ _ (i + 1) a k h0 (by omega)
    have h1 := drop_some h0 (toksF_length _ _)
    have h2 : T.drop (i + 1 + ta.length + 1) = toksF (fun j => p (ta.length + (j + 1) + 1)) (tb ++ [[41]]) ++ X := drop_one h1
    rw [toksF_append, List.append_assoc] at h2
    have rb := ihb T _ _ (i + 1 + ta.length + 1) a k h2 (by omega)
    have h3 := drop_some h2 (toksF_length _ _)
    have c1 : (cur T ⟨0, a, i + 1 + ta.length⟩).text = bs (sgnL kk) := by rw [cur_drop h1]; rfl
    have c2 : (cur T ⟨0, a, i + 1 + ta.length + 1 + tb.length⟩).text = bs [41] := by rw [cur_drop h3]; rfl
    have hT : 2 ≤ T.length := by
      have l1 := congrArg List.length h2
      have l2 : (toksF (fun j => p (ta.length + (tb.length + j + 1) + 1)) [[41]]).length = 1 := rfl
      simp only [List.length_drop, List.length_append, l2] at l1
      omega
    have hx := expr_sgn hkk hT ra (by rw [c1, bsl']) rb (noop_shut (by rw [c2, bsl']))
    rw [c1] at hx
    rw [fac_open h rfl rfl hx]
    unfold want sees
    rw [c2, if_pos (by simp)]
    unfold adv
    simp only [List.length_cons, List.length_append, List.length_nil, Prod.mk.injEq, true_and, PS.mk.injEq]
    omega

end Go.Proofs.YtklobognaldjpaaGreat

namespace Go.Proofs.YtklobognaldjpaaGreat

theorem dig_byte {k : Nat} (h : k < 10) : digitB (UInt8.ofNat (48 + k)) = true ∧ letterB (UInt8.ofNat (48 + k)) = false ∧ (UInt8.ofNat (48 + k)).toNat - 48 = k := by
  have : k = 0 ∨ k = 1 ∨ k = 2 ∨ k = 3 ∨ k = 4 ∨ k = 5 ∨ k = 6 ∨ k = 7 ∨ k = 8 ∨ k = 9 := by omega
  rcases this with rfl | rfl | rfl | rfl | rfl | rfl | rfl | rfl | rfl | rfl <;> decide

theorem digF_all : ∀ (f n : Nat), n < 10 ^ f → (∀ c ∈ digF f n, digitB c = true ∧ letterB c = false) ∧ valOf (digF f n) = n
  | 0, n, h => by
    have : n = 0 := by simpa using h
    subst this
    exact ⟨by simp [digF], rfl⟩
  | f + 1, n, h => by
    rw [digF]
    split
    · rename_i h1
      obtain ⟨a, b, c⟩ := dig_byte h1
      refine ⟨fun x hx => by rw [List.mem_singleton] at hx; subst hx; exact ⟨a, b⟩, ?_⟩
      simp only [valOf, List.foldl_cons, List.foldl_nil]
      omega
    · obtain ⟨a, b, c⟩ := dig_byte (k := n % 10) (by omega)
      obtain ⟨g1, g2⟩ := digF_all f (n / 10) (by rw [Nat.div_lt_iff_lt_mul (by omega)]; rw [Nat.pow_succ] at h; omega)
      refine ⟨fun x hx => ?_, ?_⟩
      · rcases List.mem_append.1 hx with hx | hx
        · exact g1 x hx
        · rw [List.mem_singleton] at hx; subst hx; exact ⟨a, b⟩
      · unfold valOf at *
        rw [List.foldl_append, g2]
        simp only [List.foldl_cons, List.foldl_nil]
        omega

theorem digL_ne (n : Nat) : digL n ≠ [] := by
  unfold digL
  rw [digF]
  split <;> simp

/-- Digits, and no digit behind them. -/
theorem lex_dig {n : Nat} (h : n ≤ 2147483647) {X : List UInt8} (hX : X = [] ∨ ∃ c r, X = c :: r ∧ digitB c = false) : lex1 (digL n ++ X) = .ok (.number, (digL n).length, n) := by
  obtain ⟨g1, g2⟩ := digF_all 20 n (by omega)
  have g1' : ∀ c ∈ digL n, digitB c = true ∧ letterB c = false := g1
  have g2' : valOf (digL n) = n := g2
  have htw : (digL n ++ X).takeWhile digitB = digL n := by
    rw [List.takeWhile_append_of_pos (fun c hc => (g1' c hc).1)]
    rcases hX with rfl | ⟨c, r, rfl, hc⟩
    · simp
    · simp [hc]
  have hdl : digLen (digL n ++ X) = (digL n).length := by unfold digLen; rw [htw]
  have htk : (digL n ++ X).take (digLen (digL n ++ X)) = digL n := by rw [hdl, List.take_left]
  cases hd : digL n ++ X with
  | nil => exact absurd (List.append_eq_nil_iff.1 hd).1 (digL_ne n)
  | cons c r =>
    have hc : c ∈ digL n := by
      cases he : digL n with
      | nil => exact absurd he (digL_ne n)
      | cons c' r' => rw [he] at hd; injection hd with h1 _; rw [← h1]; simp
    rw [lex1, if_neg (by rw [(g1' c hc).2]; simp), if_pos (g1' c hc).1, ← hd, htk, g2', if_neg (by unfold maxNumber; omega), hdl]

theorem tk_dig {n : Nat} (h : n ≤ 2147483647) : tkOf (digL n) = (.number, n) := by
  have := lex_dig h (X := []) (.inl rfl)
  rw [List.append_nil] at this
  unfold tkOf
  rw [this]

end Go.Proofs.YtklobognaldjpaaGreat
