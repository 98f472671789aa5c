/- Plain: tokens off the head of a text, so many at a time. Plain: the expressions that lecternkeep's sum makes. Plain: the three programs around an expression: how they are read. -/
import Derived.Test.YtklobognaldjpaaGreatCSx4
import Derived.Test.YtklobognaldjpaaGreatCLes7
namespace Go.Proofs.YtklobognaldjpaaGreat

/-- How much of what stands between tokens is at the head. -/
def gapR : Nat → List UInt8 → Nat
  | 0, _ => 0
  | n + 1, R => if gapSz R = 0 then 0 else gapSz R + gapR n (R.drop (gapSz R))

theorem gapR_zero {R : List UInt8} (h : gapSz R = 0) : ∀ n, gapR n R = 0
  | 0 => rfl
  | n + 1 => by rw [gapR, if_pos h]

theorem gapR_eq {L : List UInt8} : ∀ (n q : Nat) (R : List UInt8), L.drop q = R → R.length ≤ n → gap L q = q + gapR n R
  | 0, q, R, h, hn => by
    have hl := congrArg List.length h
    rw [List.length_drop] at hl
    rw [gap, if_neg (by omega)]
    rfl
  | n + 1, q, R, h, hn => by
    have hl := congrArg List.length h
    rw [List.length_drop] at hl
    by_cases hq : q < L.length
    · rw [gap, if_pos hq, h, gapR]
      by_cases h0 : gapSz R = 0
      · rw [if_pos h0, if_pos h0]; rfl
      · rw [if_neg h0, if_neg h0, gapR_eq n (q + gapSz R) (R.drop (gapSz R)) (by rw [← List.drop_drop, h]) (by rw [List.length_drop]; omega)]
        omega
    · have hR : R = [] := List.length_eq_zero_iff.1 (by omega)
      subst hR
      rw [gap, if_neg hq, gapR_zero rfl]
      rfl

/-- So many tokens off the head; what is left, and where that stands. -/
def lexS : Nat → List UInt8 → Nat → Option (List Tok × List UInt8 × Nat)
  | 0, R, q => some ([], R, q)
  | n + 1, R, q => match lex1 (R.drop (gapR R.length R)) with
    | .error _ => none
    | .ok x => match lexS n ((R.drop (gapR R.length R)).drop x.2.1) (q + gapR R.length R + x.2.1) with
      | none => none
      | some y => some (⟨x.1, ⟨((R.drop (gapR R.length R)).take x.2.1).toArray⟩, x.2.2, q + gapR R.length R⟩ :: y.1, y.2)

theorem lexS_add : ∀ (n m : Nat) {R R1 R2 : List UInt8} {q q1 q2 : Nat} {A B : List Tok}, lexS n R q = some (A, R1, q1) → lexS m R1 q1 = some (B, R2, q2) → lexS (n + m) R q = some (A ++ B, R2, q2)
  | 0, m, R, R1, R2, q, q1, q2, A, B, h1, h2 => by
    rw [lexS] at h1
    cases h1
    rw [Nat.zero_add, h2]
    rfl
  | n + 1, m, R, R1, R2, q, q1, q2, A, B, h1, h2 => by
    rw [show n + 1 + m = (n + m) + 1 by omega]
    rw [lexS] at h1 ⊢
    cases hx : lex1 (R.drop (gapR R.length R)) with
    | error c => rw [hx] at h1; cases h1
    | ok x =>
      rw [hx] at h1
      simp only at h1 ⊢
      cases hr : lexS n ((R.drop (gapR R.length R)).drop x.2.1) (q + gapR R.length R + x.2.1) with
      | none => rw [hr] at h1; cases h1
      | some y =>
        obtain ⟨ya, yb, yc⟩ := y
        rw [hr] at h1
        cases h1
        rw [lexS_add n m hr h2]
        rfl

theorem lexS_at : ∀ (n : Nat) {L R R2 : List UInt8} {q q2 : Nat} {A : List Tok}, L.drop q = R → lexS n R q = some (A, R2, q2) → lexAt L (gap L q) = thenToks A (lexAt L (gap L q2)) ∧ L.drop q2 = R2
  | 0, L, R, R2, q, q2, A, h, h1 => by
    rw [lexS] at h1
    cases h1
    refine ⟨?_, h⟩
    unfold thenToks
    cases lexAt L (gap L q) <;> rfl
  | n + 1, L, R, R2, q, q2, A, h, h1 => by
    rw [lexS] at h1
    have hg : gap L q = q + gapR R.length R := gapR_eq _ _ _ h (Nat.le_refl _)
    have hd : L.drop (gap L q) = R.drop (gapR R.length R) := by rw [hg, ← List.drop_drop, h]
    cases hx : lex1 (R.drop (gapR R.length R)) with
    | error c => rw [hx] at h1; cases h1
    | ok x =>
      rw [hx] at h1
      simp only at h1
      cases hr : lexS n ((R.drop (gapR R.length R)).drop x.2.1) (q + gapR R.length R + x.2.1) with
      | none => rw [hr] at h1; cases h1
      | some y =>
        obtain ⟨ya, yb, yc⟩ := y
        rw [hr] at h1
        cases h1
        have hq : gap L q < L.length := by
          by_cases hq : gap L q < L.length
          · exact hq
          · rw [← hd, List.drop_eq_nil_of_le (by omega)] at hx
            cases hx
        have hd2 : L.drop (gap L q + x.2.1) = (R.drop (gapR R.length R)).drop x.2.1 := by rw [← List.drop_drop, hd]
        obtain ⟨i1, i2⟩ := lexS_at n (L := L) (q := gap L q + x.2.1) hd2 (by rw [hg]; exact hr)
        refine ⟨?_, i2⟩
        rw [lexAt_ok hq (by rw [hd]; exact hx), i1]
        have em : mkTok L (gap L q) x = ⟨x.1, ⟨((R.drop (gapR R.length R)).take x.2.1).toArray⟩, x.2.2, q + gapR R.length R⟩ := by
          unfold mkTok; rw [hd, hg]
        rw [em]
        unfold thenToks
        cases lexAt L (gap L q2) <;> rfl

/-- A text that is tokens to its end. -/
theorem lexS_all {n : Nat} {L : List UInt8} {q : Nat} {A : List Tok} (h : lexS n L 0 = some (A, [], q)) : lexAll L = .ok (A ++ [overAt L.length]) := by
  obtain ⟨h1, h2⟩ := lexS_at n (L := L) (q := 0) rfl h
  have hq : ¬ q < L.length := by
    have := congrArg List.length h2
    rw [List.length_drop] at this
    simp at this
    omega
  have hg : gap L q = q := by rw [gap, if_neg hq]
  unfold lexAll
  rw [h1, hg, lexAt_end hq]
  rfl

/-- A word that is a token, with a blank or ')' behind it. -/
structure TokX (t : List UInt8) : Prop where
  gap : ∀ X, gapSz (t ++ X) = 0
  lex : ∀ X, (∃ c r, X = c :: r ∧ (c = 32 ∨ c = 41)) → lex1 (t ++ X) = .ok ((tkOf t).1, t.length, (tkOf t).2)
  ne : t ≠ []

def opsW : List (List UInt8) := [[45], [110, 111, 116], [40], [41], [43], [42], [47], [37], [61], [35], [60], [62], [97, 110, 100], [111, 114]]

set_option maxRecDepth 1000000 in
theorem ops_tok {t : List UInt8} (ht : t ∈ opsW) : TokX t := by
  refine ⟨fun X => ?_, fun X hX => ?_, ?_⟩
  · have h : opsW.map (fun t => gapSz (t ++ X)) = opsW.map (fun _ => 0) := by kernel_rfl
    exact map_all h ht
  · obtain ⟨c, r, rfl, rfl | rfl⟩ := hX
    · have h : opsW.map (fun t => lex1 (t ++ 32 :: r)) = opsW.map (fun t => Except.ok ((tkOf t).1, t.length, (tkOf t).2)) := by kernel_rfl
      exact map_all h ht
    · have h : opsW.map (fun t => lex1 (t ++ 41 :: r)) = opsW.map (fun t => Except.ok ((tkOf t).1, t.length, (tkOf t).2)) := by kernel_rfl
      exact map_all h ht
  · intro e; subst e; revert ht; decide

theorem dig_gap {c : UInt8} (h : digitB c = true) (r : List UInt8) : gapSz (c :: r) = 0 := by
  unfold gapSz
  have h1 : c ≠ 32 := by rintro rfl; revert h; decide
  have h2 : c ≠ 10 := by rintro rfl; revert h; decide
  have h3 : c ≠ 123 := by rintro rfl; revert h; decide
  simp [h1, h2, h3]

theorem num_tok {n : Nat} (h : n ≤ 2147483647) : TokX (digL n) := by
  refine ⟨fun X => ?_, fun X hX => ?_, digL_ne n⟩
  · obtain ⟨g1, g2⟩ := digF_all 20 n (by omega)
    have g1' : ∀ c ∈ digL n, digitB c = true ∧ letterB c = false := g1
    cases hd : digL n with
    | nil => exact absurd hd (digL_ne n)
    | cons c r => exact dig_gap (g1' c (by rw [hd]; simp)).1 _
  · rw [tk_dig h]
    obtain ⟨c, r, rfl, hc⟩ := hX
    exact lex_dig h (.inr ⟨c, r, rfl, by rcases hc with rfl | rfl <;> decide⟩)

theorem sgn_ops {k : Nat} (hk : k < 11) : sgnL k ∈ opsW := by
  have hk' : k = 0 ∨ k = 1 ∨ k = 2 ∨ k = 3 ∨ k = 4 ∨ k = 5 ∨ k = 6 ∨ k = 7 ∨ k = 8 ∨ k = 9 ∨ k = 10 := by omega
  rcases hk' with rfl | rfl | rfl | rfl | rfl | rfl | rfl | rfl | rfl | rfl | rfl <;> decide

theorem fx_tok {ts : List (List UInt8)} {e : Ex} {v : Int} {d : Nat} (h : FX ts e v d) : ∀ t ∈ ts, TokX t := by
  induction h with
  | num n hn => intro t ht; rw [List.mem_singleton] at ht; subst ht; exact num_tok hn
  | neg _ ih =>
    intro t ht
    rcases List.mem_cons.1 ht with rfl | ht
    · exact ops_tok (by decide)
    · exact ih t ht
  | not _ ih =>
    intro t ht
    rcases List.mem_cons.1 ht with rfl | ht
    · exact ops_tok (by decide)
    · exact ih t ht
  | two k hk _ _ _ iha ihb =>
    intro t ht
    simp only [List.mem_cons, List.mem_append, List.not_mem_nil, or_false] at ht
    rcases ht with rfl | ht | rfl | ht | rfl
    · exact ops_tok (by decide)
    · exact iha t ht
    · exact ops_tok (sgn_ops hk)
    · exact ihb t ht
    · exact ops_tok (by decide)

/-- Words, a blank ahead of each. -/
def preW (ts : List (List UInt8)) : List UInt8 := ts.flatMap fun t => 32 :: t

theorem lexS_step {n : Nat} {g t Z R2 : List UInt8} {q q2 : Nat} {A : List Tok} (hg : g = [] ∨ g = [32]) (ht : TokX t) (hZ : ∃ c r, Z = c :: r ∧ (c = 32 ∨ c = 41)) (h : lexS n Z (q + g.length + t.length) = some (A, R2, q2)) : lexS (n + 1) (g ++ (t ++ Z)) q = some (⟨(tkOf t).1, ⟨t.toArray⟩, (tkOf t).2, q + g.length⟩ :: A, R2, q2) := by
  have e : gapR (g ++ (t ++ Z)).length (g ++ (t ++ Z)) = g.length := by
    rcases hg with rfl | rfl
    · exact gapR_zero (ht.gap Z) _
    · show gapR ((t ++ Z).length + 1) (32 :: (t ++ Z)) = 1
      rw [gapR]
      show (if (1 : Nat) = 0 then 0 else 1 + gapR (t ++ Z).length (t ++ Z)) = 1
      rw [gapR_zero (ht.gap Z)]
      rfl
  rw [lexS, e, List.drop_left, ht.lex Z hZ]
  simp only
  rw [List.drop_left, h, List.take_left]

theorem preW_head {ts : List (List UInt8)} {Y : List UInt8} (hY : ∃ c r, Y = c :: r ∧ (c = 32 ∨ c = 41)) : ∃ c r, preW ts ++ Y = c :: r ∧ (c = 32 ∨ c = 41) := by
  cases ts with
  | nil => exact hY
  | cons t r => exact ⟨32, _, rfl, .inl rfl⟩

theorem lexS_pre : ∀ (ts : List (List UInt8)) (q : Nat) (Y : List UInt8), (∀ t ∈ ts, TokX t) → (∃ c r, Y = c :: r ∧ (c = 32 ∨ c = 41)) → ∃ p, lexS ts.length (preW ts ++ Y) q = some (toksF p ts, Y, q + (preW ts).length)
  | [], q, Y, _, _ => ⟨fun _ => 0, rfl⟩
  | t :: r, q, Y, h, hY => by
    obtain ⟨p, hp⟩ := lexS_pre r (q + 1 + t.length) Y (fun x hx => h x (by simp [hx])) hY
    refine ⟨fun j => match j with | 0 => q + 1 | j + 1 => p j, ?_⟩
    have e : preW (t :: r) ++ Y = [32] ++ (t ++ (preW r ++ Y)) := by unfold preW; simp
    rw [e]
    rw [List.length_cons, lexS_step (g := [32]) (.inr rfl) (h t (by simp)) (preW_head hY) hp]
    have e2 : (preW (t :: r)).length = 1 + t.length + (preW r).length := by unfold preW; simp; omega
    rw [e2, toksF]
    have e3 : q + 1 + t.length + (preW r).length = q + (1 + t.length + (preW r).length) := by omega
    rw [e3]
    rfl

/-- Words with a blank between each two. -/
theorem lexS_text {ts : List (List UInt8)} {x : List UInt8} (hx : 32 :: x = preW ts) (q : Nat) (Y : List UInt8) (h : ∀ t ∈ ts, TokX t) (hY : ∃ c r, Y = c :: r ∧ (c = 32 ∨ c = 41)) {g : List UInt8} (hg : g = [] ∨ g = [32]) : ∃ p, lexS ts.length (g ++ (x ++ Y)) q = some (toksF p ts, Y, q + g.length + x.length) := by
  cases ts with
  | nil => cases hx
  | cons t r =>
    have hx' : x = t ++ preW r := by unfold preW at hx ⊢; simpa using hx
    subst hx'
    obtain ⟨p, hp⟩ := lexS_pre r (q + g.length + t.length) Y (fun x hx => h x (by simp [hx])) hY
    refine ⟨fun j => match j with | 0 => q + g.length | j + 1 => p j, ?_⟩
    rw [List.append_assoc, List.length_cons, lexS_step hg (h t (by simp)) (preW_head hY) hp, List.length_append, toksF]
    have e3 : q + g.length + t.length + (preW r).length = q + g.length + (t.length + (preW r).length) := by omega
    rw [e3]

end Go.Proofs.YtklobognaldjpaaGreat

namespace Go.Proofs.YtklobognaldjpaaGreat

/-- A text that is an expression, its value, how deep it goes. -/
structure It (t : List UInt8) (v : Int) (d : Nat) : Prop where
  fx : ∃ ts x, FX ts x v d ∧ 32 :: t = preW ts
  lo : -2147483648 ≤ v
  hi : v ≤ 2147483647
  d1 : 1 ≤ d
  d9 : d ≤ 9
  len : t.length ≤ 310

theorem preW_append (a b : List (List UInt8)) : preW (a ++ b) = preW a ++ preW b := by unfold preW; simp
theorem preW_cons (a : List UInt8) (b : List (List UInt8)) : preW (a :: b) = 32 :: a ++ preW b := by unfold preW; simp

theorem wrapV_range (n : Int) : -2147483648 ≤ wrapV n ∧ wrapV n ≤ 2147483647 := by
  unfold wrapV Int.bmod; simp only; split <;> omega
theorem truthV_range (b : Bool) : -2147483648 ≤ truthV b ∧ truthV b ≤ 2147483647 := by
  cases b <;> decide

theorem digF_many : ∀ f n, (digF f n).length ≤ f
  | 0, _ => by simp [digF]
  | f + 1, n => by
    rw [digF]; split
    · simp
    · have := digF_many f (n / 10); simp; omega

theorem twoV_range {k : Nat} {x y v : Int} (h : twoV k x y = (v, true)) : -2147483648 ≤ v ∧ v ≤ 2147483647 := by
  unfold twoV at h
  split at h
  all_goals first
    | (injection h with h _; subst h; first | exact wrapV_range _ | exact truthV_range _)
    | (split at h
       · cases h
       · injection h with h _; subst h; exact wrapV_range _)

theorem it_num {n : Nat} (h : n ≤ 2147483647) : It (digL n) n 1 :=
  ⟨⟨[digL n], .num n, .num n h, by unfold preW; simp⟩, by omega, by omega, by omega, by omega, by have := digF_many 20 n; unfold digL; omega⟩

theorem it_neg {t : List UInt8} {v : Int} {d : Nat} (h : It t v d) (hd : d < 9) (hl : t.length < 300) : It ([45, 32] ++ t) (wrapV (-v)) (1 + d) := by
  obtain ⟨ts, x, hx, ht⟩ := h.fx
  refine ⟨⟨[45] :: ts, _, by rw [Nat.add_comm]; exact .neg hx, by rw [preW_cons, ← ht]; rfl⟩, (wrapV_range _).1, (wrapV_range _).2, by omega, by omega, by simp; omega⟩

theorem it_not {t : List UInt8} {v : Int} {d : Nat} (h : It t v d) (hd : d < 9) (hl : t.length < 300) : It ([110, 111, 116, 32] ++ t) (truthV (v == 0)) (1 + d) := by
  obtain ⟨ts, x, hx, ht⟩ := h.fx
  refine ⟨⟨[110, 111, 116] :: ts, _, by rw [Nat.add_comm]; exact .not hx, by rw [preW_cons, ← ht]; rfl⟩, (truthV_range _).1, (truthV_range _).2, by omega, by omega, by simp; omega⟩

theorem sgnL_len {k : Nat} (hk : k < 11) : (sgnL k).length ≤ 3 := by
  have hk' : k = 0 ∨ k = 1 ∨ k = 2 ∨ k = 3 ∨ k = 4 ∨ k = 5 ∨ k = 6 ∨ k = 7 ∨ k = 8 ∨ k = 9 ∨ k = 10 := by omega
  rcases hk' with rfl | rfl | rfl | rfl | rfl | rfl | rfl | rfl | rfl | rfl | rfl <;> decide

theorem it_two {k : Nat} (hk : k < 11) {t u : List UInt8} {a b v : Int} {d e : Nat} (hx : It t a d) (hy : It u b e) (hv : twoV k a b = (v, true)) (hl : t.length + u.length < 300) (hd : max d e < 9) : It ([40, 32] ++ t ++ [32] ++ sgnL k ++ [32] ++ u ++ [32, 41]) v (1 + max d e) := by
  obtain ⟨ta, x, hfx, ht⟩ := hx.fx
  obtain ⟨tb, y, hfy, hu⟩ := hy.fx
  have hs := sgnL_len hk
  refine ⟨⟨_, _, .two k hk hfx hfy hv, ?_⟩, (twoV_range hv).1, (twoV_range hv).2, by omega, by omega, by simp; omega⟩
  rw [preW_cons, preW_append, preW_cons, preW_append, ← ht, ← hu]
  simp [preW]

end Go.Proofs.YtklobognaldjpaaGreat

namespace Go.Proofs.YtklobognaldjpaaGreat

theorem toks_end (A : List Tok) (e : Nat) : Toks (A ++ [overAt e]) := by
  refine ⟨by simp, fun t ht => ?_⟩
  rw [List.length_append, List.length_singleton, Nat.add_sub_cancel, List.getElem?_append_right (Nat.le_refl _), Nat.sub_self] at ht
  simp at ht
  subst ht
  exact ⟨rfl, by show (bs []).toList = []; rw [bsl']⟩

theorem noop_word {T : List Tok} {s : PS} {t : List UInt8} (ht : t = [101, 110, 100] ∨ t = [116, 104, 101, 110] ∨ t = [41] ∨ t = [59]) (h : (cur T s).text = bs t) : NoOp T s := by
  have h' : (cur T s).text.toList = t := by rw [h, bsl']
  rcases ht with rfl | rfl | rfl | rfl <;> (constructor <;> (rw [sees_all h']; kernel_rfl))

/-- An expression that is one factor. -/
theorem expr_fx {ts : List (List UInt8)} {e : Ex} {v : Int} {d : Nat} (h : FX ts e v d) {T : List Tok} {p p2 : Nat → Nat} {X : List Tok} {i a k : Nat} {t : List UInt8} {B : List (List UInt8)} (hT : T.drop i = toksF p ts ++ (toksF p2 (t :: B) ++ X)) (hd : d ≤ k) (ht : t = [101, 110, 100] ∨ t = [116, 104, 101, 110] ∨ t = [41] ∨ t = [59]) : exprD T k ⟨0, a, i⟩ = (e, ⟨0, a, i + ts.length⟩) := by
  have h1 := drop_some hT (toksF_length _ _)
  refine expr_one (read_fx (fun n hn => tk_dig hn) h T p _ i a k hT hd) (noop_word ht ?_)
  rw [cur_drop h1]
  rfl

def begW : List UInt8 := [98, 101, 103, 105, 110]
def wrW : List UInt8 := [119, 114, 105, 116, 101]
def ifW : List UInt8 := [105, 102]
def thenW : List UInt8 := [116, 104, 101, 110]
def elseW : List UInt8 := [101, 108, 115, 101]

section
variable (p : Nat → Nat) (Y : List Tok)

set_option maxRecDepth 1000000 in
theorem wr_head : globalsP (toksF p [begW, wrW] ++ Y) ⟨0, 0, 0⟩ = ([], ⟨0, 0, 0⟩) ∧ want (toksF p [begW, wrW] ++ Y) (bs [98, 101, 103, 105, 110]) ⟨0, 0, 0⟩ = ⟨0, 0, 1⟩ ∧ (∀ st : PS → St × PS, listOne (toksF p [begW, wrW] ++ Y) st ⟨0, 0, 1⟩ = ([(st ⟨0, 0, 1⟩).1], (st ⟨0, 0, 1⟩).2)) ∧ stmtD (toksF p [begW, wrW] ++ Y) 14 ⟨0, 0, 1⟩ = (.write (exprD (toksF p [begW, wrW] ++ Y) 13 ⟨0, 0, 2⟩).1, (exprD (toksF p [begW, wrW] ++ Y) 13 ⟨0, 0, 2⟩).2) := by
  refine ⟨by kernel_rfl, by kernel_rfl, fun st => by kernel_rfl, by kernel_rfl⟩

set_option maxRecDepth 1000000 in
theorem if_head : globalsP (toksF p [begW, ifW] ++ Y) ⟨0, 0, 0⟩ = ([], ⟨0, 0, 0⟩) ∧ want (toksF p [begW, ifW] ++ Y) (bs [98, 101, 103, 105, 110]) ⟨0, 0, 0⟩ = ⟨0, 0, 1⟩ ∧ (∀ st : PS → St × PS, listOne (toksF p [begW, ifW] ++ Y) st ⟨0, 0, 1⟩ = ([(st ⟨0, 0, 1⟩).1], (st ⟨0, 0, 1⟩).2)) ∧ stmtD (toksF p [begW, ifW] ++ Y) 14 ⟨0, 0, 1⟩ = choiceSt (toksF p [begW, ifW] ++ Y) (exprD (toksF p [begW, ifW] ++ Y) 13) (stmtD (toksF p [begW, ifW] ++ Y) 13) ⟨0, 0, 2⟩ := by
  refine ⟨by kernel_rfl, by kernel_rfl, fun st => by kernel_rfl, by kernel_rfl⟩

end

theorem list_one {T : List Tok} {st : PS → St × PS} {s s1 : PS} {x : St} (hT : 0 < T.length) (h : listOne T st s = ([(st s).1], (st s).2)) (h1 : st s = (x, s1)) (h2 : sees T (bs [59]) s1 = false) : listOf T st s = ([x], s1) := by
  unfold listOf
  obtain ⟨n, hn⟩ : ∃ n, T.length = n + 1 := ⟨T.length - 1, by omega⟩
  rw [hn, listLoop, h, h1]
  simp only [h2]
  rfl

theorem sees_drop {T : List Tok} {i a c : Nat} {t : Tok} {X : List Tok} {f : ByteArray} (h : T.drop i = t :: X) : sees T f ⟨c, a, i⟩ = (t.text.toList == f.toList) := by
  unfold sees
  rw [cur_drop h]

theorem finish_at {T : List Tok} {i a e : Nat} {p : Nat → Nat} (h : T.drop i = toksF p [endW, dotW] ++ [overAt e]) : finish T ⟨0, a, i⟩ = ⟨0, a, i + 2⟩ := by
  have hi : i < T.length := by
    have := congrArg List.length h
    rw [List.length_drop] at this
    simp [toksF] at this
    omega
  have := sh_finish hi ⟨0, a, 0⟩
  rw [h, finish_whole] at this
  exact this

/-- 'begin write X end.' -/
theorem wr_read {ts : List (List UInt8)} {x : Ex} {v : Int} {d : Nat} (h : FX ts x v d) (hd : d ≤ 13) (p p1 p2 : Nat → Nat) (e : Nat) :
    programP (toksF p [begW, wrW] ++ (toksF p1 ts ++ (toksF p2 [endW, dotW] ++ [overAt e]))) ⟨0, 0, 0⟩ = (⟨[], [.write x]⟩, ⟨0, 0, 2 + ts.length + 2⟩) := by
  obtain ⟨h1, h2, h3, h4⟩ := wr_head p (toksF p1 ts ++ (toksF p2 [endW, dotW] ++ [overAt e]))
  have hX := expr_fx h (T := toksF p [begW, wrW] ++ (toksF p1 ts ++ (toksF p2 [endW, dotW] ++ [overAt e]))) (i := 2) (a := 0) (k := 13) rfl hd (.inl rfl)
  have hD : (toksF p [begW, wrW] ++ (toksF p1 ts ++ (toksF p2 [endW, dotW] ++ [overAt e]))).drop (2 + ts.length) = toksF p2 [endW, dotW] ++ [overAt e] := drop_some (T := toksF p [begW, wrW] ++ (toksF p1 ts ++ (toksF p2 [endW, dotW] ++ [overAt e]))) (j := 2) rfl (toksF_length p1 ts)
  have hl : 0 < (toksF p [begW, wrW] ++ (toksF p1 ts ++ (toksF p2 [endW, dotW] ++ [overAt e]))).length := by simp [toksF]
  rw [hX] at h4
  rw [program_finish, h1, h2]
  generalize toksF p [begW, wrW] ++ (toksF p1 ts ++ (toksF p2 [endW, dotW] ++ [overAt e])) = T at *
  rw [list_one hl (h3 _) h4 (by rw [sees_drop hD]; kernel_rfl), finish_at hD]

def ifB : List (List UInt8) := [thenW, wrW, [49], elseW, wrW, [48], endW, dotW]

set_option maxRecDepth 1000000 in
theorem if_tail (p : Nat → Nat) (X : List Tok) (a : Nat) :
    want (toksF p ifB ++ X) (bs [116, 104, 101, 110]) ⟨0, a, 0⟩ = ⟨0, a, 1⟩ ∧ stmtD (toksF p ifB ++ X) 13 ⟨0, a, 1⟩ = (.write (.num 1), ⟨0, a, 3⟩) ∧ sees (toksF p ifB ++ X) (bs [101, 108, 115, 101]) ⟨0, a, 3⟩ = true ∧ stmtD (toksF p ifB ++ X) 13 ⟨0, a, 4⟩ = (.write (.num 0), ⟨0, a, 6⟩) := by
  refine ⟨by kernel_rfl, by kernel_rfl, by kernel_rfl, by kernel_rfl⟩

/-- 'begin if X then write 1 else write 0 end.' -/
theorem if_read {ts : List (List UInt8)} {x : Ex} {v : Int} {d : Nat} (h : FX ts x v d) (hd : d ≤ 13) (p p1 p2 : Nat → Nat) (e : Nat) :
    programP (toksF p [begW, ifW] ++ (toksF p1 ts ++ (toksF p2 ifB ++ [overAt e]))) ⟨0, 0, 0⟩ = (⟨[], [.ite x (.write (.num 1)) (.write (.num 0))]⟩, ⟨0, 0, 2 + ts.length + 6 + 2⟩) := by
  obtain ⟨h1, h2, h3, h4⟩ := if_head p (toksF p1 ts ++ (toksF p2 ifB ++ [overAt e]))
  have hX := expr_fx h (T := toksF p [begW, ifW] ++ (toksF p1 ts ++ (toksF p2 ifB ++ [overAt e]))) (i := 2) (a := 0) (k := 13) rfl hd (.inr (.inl rfl))
  have hD : (toksF p [begW, ifW] ++ (toksF p1 ts ++ (toksF p2 ifB ++ [overAt e]))).drop (2 + ts.length) = toksF p2 ifB ++ [overAt e] := drop_some (T := toksF p [begW, ifW] ++ (toksF p1 ts ++ (toksF p2 ifB ++ [overAt e]))) (j := 2) rfl (toksF_length p1 ts)
  have hTk : Toks (toksF p [begW, ifW] ++ (toksF p1 ts ++ (toksF p2 ifB ++ [overAt e]))) := by
    rw [← List.append_assoc, ← List.append_assoc]; exact toks_end _ _
  obtain ⟨t1, t2, t3, t4⟩ := if_tail p2 [overAt e] 0
  rw [program_finish, h1, h2]
  generalize toksF p [begW, ifW] ++ (toksF p1 ts ++ (toksF p2 ifB ++ [overAt e])) = T at *
  have hi : 2 + ts.length < T.length := by
    have := congrArg List.length hD
    rw [List.length_drop] at this
    simp [toksF, ifB] at this
    omega
  have hg : ∀ j, j < 9 → Good (T.drop (2 + ts.length)) ⟨0, 0, j⟩ := fun j hj => by
    rw [hD]; show j < _; simp [toksF, ifB]; omega
  have s1 : stmtD T 13 ⟨0, 0, 2 + ts.length + 1⟩ = (.write (.num 1), ⟨0, 0, 2 + ts.length + 3⟩) := by
    have := shf_stmt hTk hi 13 ⟨0, 0, 1⟩ (hg 1 (by omega))
    rw [hD, t2] at this
    exact this
  have s2 : stmtD T 13 ⟨0, 0, 2 + ts.length + 4⟩ = (.write (.num 0), ⟨0, 0, 2 + ts.length + 6⟩) := by
    have := shf_stmt hTk hi 13 ⟨0, 0, 4⟩ (hg 4 (by omega))
    rw [hD, t4] at this
    exact this
  have w1 : want T (bs [116, 104, 101, 110]) ⟨0, 0, 2 + ts.length⟩ = ⟨0, 0, 2 + ts.length + 1⟩ := by
    have := sh_want hi (bs [116, 104, 101, 110]) ⟨0, 0, 0⟩
    rw [hD, t1] at this
    exact this
  have e1 : sees T (bs [101, 108, 115, 101]) ⟨0, 0, 2 + ts.length + 3⟩ = true := by
    have := sh_sees (T := T) (i := 2 + ts.length) (bs [101, 108, 115, 101]) ⟨0, 0, 3⟩
    rw [hD, t3] at this
    exact this
  have hst : stmtD T 14 ⟨0, 0, 1⟩ = (.ite x (.write (.num 1)) (.write (.num 0)), ⟨0, 0, 2 + ts.length + 6⟩) := by
    rw [h4]
    unfold choiceSt
    rw [hX]
    simp only
    rw [w1, s1]
    simp only
    rw [if_pos e1]
    show (St.ite x _ (stmtD T 13 ⟨0, 0, 2 + ts.length + 4⟩).1, (stmtD T 13 ⟨0, 0, 2 + ts.length + 4⟩).2) = _
    rw [s2]
  have hD6 : T.drop (2 + ts.length + 6) = toksF (fun j => p2 (6 + j)) [endW, dotW] ++ [overAt e] := by
    rw [← List.drop_drop, hD]; rfl
  rw [list_one (by omega) (h3 _) hst (by rw [sees_drop hD6]; kernel_rfl), finish_at hD6]

/-- 'var a; func f(n) begin f := n end; begin a := f(' -/
def fnA : List (List UInt8) := [[118, 97, 114], [97], [59], [102, 117, 110, 99], [102], [40], [110], [41], begW, [102], [58, 61], [110], endW, [59], begW, [97], [58, 61], [102], [40]]
/-- '); write a end.' -/
def fnB : List (List UInt8) := [[41], [59], wrW, [97], endW, dotW]

def fnG (p : Nat → Nat) : List Gl := [.var nA (p 1), .func ⟨(nF, p 4), [(nN, p 6)], [], [.assign nF (p 9) (.var nN (p 11))]⟩]

set_option maxRecDepth 1000000 in
theorem fn_head (p : Nat → Nat) (Y : List Tok) : globalsP (toksF p fnA ++ Y) ⟨0, 0, 0⟩ = (fnG p, ⟨0, 0, 14⟩) ∧ want (toksF p fnA ++ Y) (bs [98, 101, 103, 105, 110]) ⟨0, 0, 14⟩ = ⟨0, 0, 15⟩ ∧ (∀ st : PS → St × PS, listOne (toksF p fnA ++ Y) st ⟨0, 0, 15⟩ = ([(st ⟨0, 0, 15⟩).1], (st ⟨0, 0, 15⟩).2)) ∧ stmtD (toksF p fnA ++ Y) 14 ⟨0, 0, 15⟩ = (.assign nA (p 15) (exprD (toksF p fnA ++ Y) 13 ⟨0, 0, 17⟩).1, (exprD (toksF p fnA ++ Y) 13 ⟨0, 0, 17⟩).2)
    ∧ factorD (toksF p fnA ++ Y) 13 ⟨0, 0, 17⟩ = (.call nF (p 17) (argsOf (toksF p fnA ++ Y) (exprD (toksF p fnA ++ Y) 12) ⟨0, 0, 19⟩).1, (argsOf (toksF p fnA ++ Y) (exprD (toksF p fnA ++ Y) 12) ⟨0, 0, 19⟩).2) := by
  refine ⟨by kernel_rfl, by kernel_rfl, fun st => by kernel_rfl, by kernel_rfl, by kernel_rfl⟩

set_option maxRecDepth 1000000 in
theorem fn_tail (p : Nat → Nat) (X : List Tok) (a : Nat) :
    want (toksF p fnB ++ X) (bs [41]) ⟨0, a, 0⟩ = ⟨0, a, 1⟩ ∧ sees (toksF p fnB ++ X) (bs [44]) ⟨0, a, 0⟩ = false ∧ sees (toksF p fnB ++ X) (bs [59]) ⟨0, a, 1⟩ = true ∧ stmtD (toksF p fnB ++ X) 14 ⟨0, a, 2⟩ = (.write (.var nA (p 3)), ⟨0, a, 4⟩)
    ∧ (∀ st : PS → St × PS, listOne (toksF p fnB ++ X) st ⟨0, a, 2⟩ = ([(st ⟨0, a, 2⟩).1], (st ⟨0, a, 2⟩).2)) ∧ sees (toksF p fnB ++ X) (bs [59]) ⟨0, a, 4⟩ = false := by
  refine ⟨by kernel_rfl, by kernel_rfl, by kernel_rfl, by kernel_rfl, fun st => by kernel_rfl, by kernel_rfl⟩

theorem fx_head {ts : List (List UInt8)} {e : Ex} {v : Int} {d : Nat} (h : FX ts e v d) : ∃ t r, ts = t :: r ∧ t ≠ [41] := by
  cases h with
  | num n hn =>
    refine ⟨_, _, rfl, fun e => ?_⟩
    obtain ⟨g1, _⟩ := digF_all 20 n (by omega)
    have := (g1 41 (by show (41 : UInt8) ∈ digL n; rw [e]; simp)).1
    revert this; decide
  | neg _ => exact ⟨_, _, rfl, by decide⟩
  | not _ => exact ⟨_, _, rfl, by decide⟩
  | two k _ _ _ _ => exact ⟨_, _, rfl, by decide⟩

/-- 'var a; func f(n) begin f := n end; begin a := f(X); write a end.' -/
theorem fn_read {ts : List (List UInt8)} {x : Ex} {v : Int} {d : Nat} (h : FX ts x v d) (hd : d ≤ 12) (p p1 p2 : Nat → Nat) (e : Nat) :
    programP (toksF p fnA ++ (toksF p1 ts ++ (toksF p2 fnB ++ [overAt e]))) ⟨0, 0, 0⟩ = (⟨fnG p, [.assign nA (p 15) (.call nF (p 17) [x]), .write (.var nA (p2 3))]⟩, ⟨0, 0, 19 + ts.length + 4 + 2⟩) := by
  obtain ⟨h1, h2, h3, h4, h5⟩ := fn_head p (toksF p1 ts ++ (toksF p2 fnB ++ [overAt e]))
  have hX := expr_fx h (T := toksF p fnA ++ (toksF p1 ts ++ (toksF p2 fnB ++ [overAt e]))) (i := 19) (a := 0) (k := 12) rfl hd (.inr (.inr (.inl rfl)))
  have hD0 : (toksF p fnA ++ (toksF p1 ts ++ (toksF p2 fnB ++ [overAt e]))).drop 19 = toksF p1 ts ++ (toksF p2 fnB ++ [overAt e]) := rfl
  have hD : (toksF p fnA ++ (toksF p1 ts ++ (toksF p2 fnB ++ [overAt e]))).drop (19 + ts.length) = toksF p2 fnB ++ [overAt e] := drop_some (T := toksF p fnA ++ (toksF p1 ts ++ (toksF p2 fnB ++ [overAt e]))) (j := 19) rfl (toksF_length p1 ts)
  have hTk : Toks (toksF p fnA ++ (toksF p1 ts ++ (toksF p2 fnB ++ [overAt e]))) := by
    rw [← List.append_assoc, ← List.append_assoc]; exact toks_end _ _
  obtain ⟨t1, t2, t3, t4, t5, t6⟩ := fn_tail p2 [overAt e] 0
  rw [program_finish, h1]
  simp only
  rw [h2]
  generalize toksF p fnA ++ (toksF p1 ts ++ (toksF p2 fnB ++ [overAt e])) = T at *
  have hi : 19 + ts.length < T.length := by
    have := congrArg List.length hD
    rw [List.length_drop] at this
    simp [toksF, fnB] at this
    omega
  have hg : ∀ j, j < 7 → Good (T.drop (19 + ts.length)) ⟨0, 0, j⟩ := fun j hj => by
    rw [hD]; show j < _; simp [toksF, fnB]; omega
  have hne : sees T (bs [41]) ⟨0, 0, 19⟩ = false := by
    obtain ⟨t, r, rfl, ht⟩ := fx_head h
    rw [sees_drop (t := ⟨(tkOf t).1, ⟨t.toArray⟩, (tkOf t).2, p1 0⟩) (X := _) hD0]
    show ((bs t).toList == (bs [41]).toList) = false
    rw [bsl', bsl']
    simpa using ht
  have w1 : want T (bs [41]) ⟨0, 0, 19 + ts.length⟩ = ⟨0, 0, 19 + ts.length + 1⟩ := by
    have := sh_want hi (bs [41]) ⟨0, 0, 0⟩
    rw [hD, t1] at this
    exact this
  have c1 : sees T (bs [44]) ⟨0, 0, 19 + ts.length⟩ = false := by
    have := sh_sees (T := T) (i := 19 + ts.length) (bs [44]) ⟨0, 0, 0⟩
    rw [hD, t2] at this
    exact this
  have c2 : sees T (bs [59]) ⟨0, 0, 19 + ts.length + 1⟩ = true := by
    have := sh_sees (T := T) (i := 19 + ts.length) (bs [59]) ⟨0, 0, 1⟩
    rw [hD, t3] at this
    exact this
  have c3 : sees T (bs [59]) ⟨0, 0, 19 + ts.length + 4⟩ = false := by
    have := sh_sees (T := T) (i := 19 + ts.length) (bs [59]) ⟨0, 0, 4⟩
    rw [hD, t6] at this
    exact this
  have s2 : stmtD T 14 ⟨0, 0, 19 + ts.length + 2⟩ = (.write (.var nA (p2 3)), ⟨0, 0, 19 + ts.length + 4⟩) := by
    have := shf_stmt hTk hi 14 ⟨0, 0, 2⟩ (hg 2 (by omega))
    rw [hD, t4] at this
    exact this
  have l2 : listOne T (stmtD T 14) ⟨0, 0, 19 + ts.length + 2⟩ = ([.write (.var nA (p2 3))], ⟨0, 0, 19 + ts.length + 4⟩) := by
    have := shf_listOne (T := T) (i := 19 + ts.length) (shf_stmt hTk hi 14) ⟨0, 0, 2⟩ (hg 2 (by omega))
    rw [hD, t5, t4] at this
    exact this
  obtain ⟨m, hm⟩ : ∃ m, T.length = m + 2 := ⟨T.length - 2, by omega⟩
  have ha : argsOf T (exprD T 12) ⟨0, 0, 19⟩ = ([x], ⟨0, 0, 19 + ts.length + 1⟩) := by
    unfold argsOf
    rw [if_neg (by rw [hne]; decide), hX, hm]
    simp only
    rw [argsLoop, c1]
    simp only [Bool.false_eq_true, if_false]
    rw [w1]
  rw [ha] at h5
  have hD1 : T.drop (19 + ts.length + 1) = toksF (fun j => p2 (1 + j)) [[59], wrW, [97], endW, dotW] ++ [overAt e] := by
    rw [← List.drop_drop, hD]; rfl
  have he : exprD T 13 ⟨0, 0, 17⟩ = (.call nF (p 17) [x], ⟨0, 0, 19 + ts.length + 1⟩) := expr_one h5 (noop_word (.inr (.inr (.inr rfl))) (by rw [cur_drop hD1]; rfl))
  rw [he] at h4
  have hD4 : T.drop (19 + ts.length + 4) = toksF (fun j => p2 (4 + j)) [endW, dotW] ++ [overAt e] := by
    rw [← List.drop_drop, hD]; rfl
  have hL : listOf T (stmtD T 14) ⟨0, 0, 15⟩ = ([.assign nA (p 15) (.call nF (p 17) [x]), .write (.var nA (p2 3))], ⟨0, 0, 19 + ts.length + 4⟩) := by
    unfold listOf
    rw [hm, listLoop, h3, h4]
    simp only
    rw [if_pos c2]
    show listLoop T (stmtD T 14) (m + 1) _ ⟨0, 0, 19 + ts.length + 2⟩ = _
    rw [listLoop, l2]
    simp only [c3]
    rfl
  rw [hL, finish_at hD4]

end Go.Proofs.YtklobognaldjpaaGreat
