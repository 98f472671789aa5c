/- Plain functions: a text that is laid out of tokens, with something between them, has these tokens. Plain functions: a reader that stands behind the first tokens reads as one that has the others alone. -/
import Derived.Test.YtklobognaldjpaaGreatCPure5
import Derived.KernelRfl
namespace Go.Proofs.YtklobognaldjpaaGreat

def thenToks (a : List Tok) (x : Except (Nat × Nat) (List Tok)) : Except (Nat × Nat) (List Tok) := match x with | .error e => .error e | .ok r => .ok (a ++ r)

end Go.Proofs.YtklobognaldjpaaGreat

namespace Go.Proofs.YtklobognaldjpaaGreat

/-- The place, so many tokens on. -/
def sh (i : Nat) (s : PS) : PS := { s with next := i + s.next }
def shR {α : Type} (i : Nat) (r : α × PS) : α × PS := (r.1, sh i r.2)

/-- A reader of all tokens, against one of those behind the first i. -/
def Shf (T : List Tok) (i : Nat) {α : Type} (f g : PS → α × PS) : Prop := ∀ s, Good (T.drop i) s → f (sh i s) = shR i (g s)

section
variable {T : List Tok} {i : Nat} (hi : i < T.length)

theorem sh_cur (s : PS) : cur T (sh i s) = cur (T.drop i) s := by
  unfold cur sh
  simp only [List.getD_eq_getElem?_getD, List.getElem?_drop]

theorem sh_sees (f : ByteArray) (s : PS) : sees T f (sh i s) = sees (T.drop i) f s := by unfold sees; rw [sh_cur]
theorem sh_any (fs : List ByteArray) (s : PS) : seesAny T fs (sh i s) = seesAny (T.drop i) fs s := by
  unfold seesAny; simp only [sh_sees]
theorem sh_kind (k : TK) (s : PS) : kindIs T k (sh i s) = kindIs (T.drop i) k s := by unfold kindIs; rw [sh_cur]
theorem sh_adv (s : PS) : adv (sh i s) = sh i (adv s) := rfl

include hi
theorem sh_fails (c : Nat) (s : PS) : fails T c (sh i s) = sh i (fails (T.drop i) c s) := by
  unfold fails
  rw [sh_cur]
  unfold sh
  simp only [List.length_drop, PS.mk.injEq, true_and]
  omega

theorem sh_want (f : ByteArray) (s : PS) : want T f (sh i s) = sh i (want (T.drop i) f s) := by
  unfold want
  rw [sh_sees, sh_fails hi, sh_adv]
  split <;> rfl

theorem sh_nameP (s : PS) : nameP T (sh i s) = shR i (nameP (T.drop i) s) := by
  unfold nameP
  rw [sh_kind, sh_cur, sh_fails hi, sh_adv]
  split <;> rfl

theorem sh_numP (s : PS) : numP T (sh i s) = shR i (numP (T.drop i) s) := by
  unfold numP
  rw [sh_kind, sh_cur, sh_fails hi, sh_adv]
  split <;> rfl

omit hi

theorem toks_drop (hT : Toks T) (hi : i < T.length) : Toks (T.drop i) := by
  refine ⟨by simp; omega, fun t ht => hT.last t ?_⟩
  rw [List.getElem?_drop, List.length_drop] at ht
  rw [← ht]
  congr 1
  omega

variable (hT : Toks T)
include hT

/-- With fuel for all tokens, more makes no difference. -/
theorem chainLoop_fuel {pf : PS → Ex × PS} (hM : Mon T pf) {fs : List ByteArray} (hfs : ∀ f ∈ fs, f.toList ≠ []) : ∀ (n k : Nat) (l : Ex) (s : PS), Good T s → T.length - s.next ≤ n → T.length - s.next ≤ k → chainLoop T pf fs n l s = chainLoop T pf fs k l s
  | 0, _, l, s, hg, h1, _ => by unfold Good at hg; omega
  | n + 1, 0, l, s, hg, _, h2 => by unfold Good at hg; omega
  | n + 1, k + 1, l, s, hg, h1, h2 => by
    rw [chainLoop, chainLoop]
    split
    · rename_i h
      unfold seesAny at h
      rw [List.any_eq_true] at h
      obtain ⟨f, hf, h⟩ := h
      have hga := good_adv hT hg h (hfs f hf)
      have h3 := hM (adv s) hga
      have e : (adv s).next = s.next + 1 := rfl
      exact chainLoop_fuel hM hfs n k _ _ h3.1 (by omega) (by omega)
    · rfl

theorem argsLoop_fuel {pf : PS → Ex × PS} (hM : Mon T pf) : ∀ (n k : Nat) (l : List Ex) (s : PS), Good T s → T.length - s.next ≤ n → T.length - s.next ≤ k → argsLoop T pf n l s = argsLoop T pf k l s
  | 0, _, l, s, hg, h1, _ => by unfold Good at hg; omega
  | n + 1, 0, l, s, hg, _, h2 => by unfold Good at hg; omega
  | n + 1, k + 1, l, s, hg, h1, h2 => by
    rw [argsLoop, argsLoop]
    split
    · rename_i h
      have hga := good_adv hT hg h (bs_ne _ (by simp))
      have h3 := hM (adv s) hga
      have e : (adv s).next = s.next + 1 := rfl
      exact argsLoop_fuel hM n k _ _ h3.1 (by omega) (by omega)
    · rfl

theorem listLoop_fuel {st : PS → St × PS} (hM : Mon T st) : ∀ (n k : Nat) (l : List St) (s : PS), Good T s → T.length - s.next ≤ n → T.length - s.next ≤ k → listLoop T st n l s = listLoop T st k l s
  | 0, _, l, s, hg, h1, _ => by unfold Good at hg; omega
  | n + 1, 0, l, s, hg, _, h2 => by unfold Good at hg; omega
  | n + 1, k + 1, l, s, hg, h1, h2 => by
    rw [listLoop, listLoop]
    split
    · rename_i h
      have h0 := mon_listOne hM s hg
      have hga := good_adv hT h0.1 h (bs_ne _ (by simp))
      have e : (adv (listOne T st s).2).next = (listOne T st s).2.next + 1 := rfl
      exact listLoop_fuel hM n k _ _ hga (by omega) (by omega)
    · rfl

end

section
variable {T : List Tok} {i : Nat} (hT : Toks T) (hi : i < T.length)
include hT hi

theorem shf_chainLoop {f g : PS → Ex × PS} (hF : Shf T i f g) (hM : Mon (T.drop i) g) {fs : List ByteArray} (hfs : ∀ x ∈ fs, x.toList ≠ []) : ∀ (n : Nat) (l : Ex) (s : PS), Good (T.drop i) s → chainLoop T f fs n l (sh i s) = shR i (chainLoop (T.drop i) g fs n l s)
  | 0, l, s, hg => rfl
  | n + 1, l, s, hg => by
    have hT' := toks_drop hT hi
    rw [chainLoop, chainLoop, sh_any, sh_cur]
    by_cases h : seesAny (T.drop i) fs s = true
    · rw [if_pos h, if_pos h]
      unfold seesAny at h
      rw [List.any_eq_true] at h
      obtain ⟨x, hx, h⟩ := h
      have hga := good_adv hT' hg h (hfs x hx)
      rw [sh_adv, hF _ hga]
      exact shf_chainLoop hF hM hfs n _ _ (hM _ hga).1
    · rw [if_neg h, if_neg h]; rfl

theorem shf_chain {f g : PS → Ex × PS} (hF : Shf T i f g) (hM : Mon (T.drop i) g) {fs : List ByteArray} (hfs : ∀ x ∈ fs, x.toList ≠ []) : Shf T i (chain T f fs) (chain (T.drop i) g fs) := by
  intro s hg
  have hT' := toks_drop hT hi
  have h1 := hM s hg
  unfold chain
  rw [hF s hg]
  show chainLoop T f fs T.length (g s).1 (sh i (g s).2) = _
  rw [shf_chainLoop hT hi hF hM hfs T.length _ _ h1.1]
  rw [chainLoop_fuel hT' hM hfs T.length (T.drop i).length _ _ h1.1 (by rw [List.length_drop]; omega) (by omega)]

theorem shf_test {f g : PS → Ex × PS} (hF : Shf T i f g) (hM : Mon (T.drop i) g) : Shf T i (testP T f) (testP (T.drop i) g) := by
  intro s hg
  have hT' := toks_drop hT hi
  have h1 := hM s hg
  unfold testP
  rw [hF s hg]
  show (if seesAny T testOps (sh i (g s).2) = true then (Ex.bin (cur T (sh i (g s).2)).text (g s).1 (f (adv (sh i (g s).2))).1, (f (adv (sh i (g s).2))).2) else shR i (g s)) = _
  rw [sh_any, sh_cur, sh_adv]
  by_cases h : seesAny (T.drop i) testOps (g s).2 = true
  · rw [if_pos h, if_pos h]
    unfold seesAny at h
    rw [List.any_eq_true] at h
    obtain ⟨x, hx, h⟩ := h
    rw [hF _ (good_adv hT' h1.1 h (ops_ne.2.2.1 x hx))]
    rfl
  · rw [if_neg h, if_neg h]

theorem shf_expr {f g : PS → Ex × PS} (hF : Shf T i f g) (hM : Mon (T.drop i) g) : Shf T i (exprOf T f) (exprOf (T.drop i) g) := by
  have hT' := toks_drop hT hi
  have h1 : Shf T i (sumOf T f) (sumOf (T.drop i) g) := shf_chain hT hi (shf_chain hT hi hF hM ops_ne.1) (mon_termOf hT' hM) ops_ne.2.1
  have h2 : Shf T i (testOf T f) (testOf (T.drop i) g) := shf_test hT hi h1 (mon_sumOf hT' hM)
  exact shf_chain hT hi (shf_chain hT hi h2 (mon_testOf hT' hM) ops_ne.2.2.2.1) (mon_andOf hT' hM) ops_ne.2.2.2.2

theorem shf_argsLoop {f g : PS → Ex × PS} (hF : Shf T i f g) (hM : Mon (T.drop i) g) : ∀ (n : Nat) (l : List Ex) (s : PS), Good (T.drop i) s → argsLoop T f n l (sh i s) = shR i (argsLoop (T.drop i) g n l s)
  | 0, l, s, hg => rfl
  | n + 1, l, s, hg => by
    have hT' := toks_drop hT hi
    rw [argsLoop, argsLoop, sh_sees]
    by_cases h : sees (T.drop i) (bs [44]) s = true
    · rw [if_pos h, if_pos h]
      have hga := good_adv hT' hg h (bs_ne _ (by simp))
      rw [sh_adv, hF _ hga]
      exact shf_argsLoop hF hM n _ _ (hM _ hga).1
    · rw [if_neg h, if_neg h]; rfl

theorem shf_args {f g : PS → Ex × PS} (hF : Shf T i f g) (hM : Mon (T.drop i) g) : Shf T i (argsOf T f) (argsOf (T.drop i) g) := by
  intro s hg
  have hT' := toks_drop hT hi
  have h1 := hM s hg
  unfold argsOf
  rw [hF s hg, sh_sees, sh_adv]
  have e : argsLoop T f T.length [(shR i (g s)).1] (shR i (g s)).2 = shR i (argsLoop (T.drop i) g (T.drop i).length [(g s).1] (g s).2) := by
    show argsLoop T f T.length [(g s).1] (sh i (g s).2) = _
    rw [shf_argsLoop hT hi hF hM T.length _ _ h1.1]
    rw [argsLoop_fuel hT' hM T.length (T.drop i).length _ _ h1.1 (by rw [List.length_drop]; omega) (by omega)]
  rw [e]
  split
  · rfl
  · show (_, want T (bs [41]) (sh i _)) = _
    rw [sh_want hi]; rfl

omit hT in
theorem shf_index {f g : PS → Ex × PS} (hF : Shf T i f g) : Shf T i (indexOf T f) (indexOf (T.drop i) g) := by
  intro s hg
  unfold indexOf
  rw [hF s hg]
  show (_, want T (bs [93]) (sh i _)) = _
  rw [sh_want hi]; rfl

theorem shf_namedFactor {f g : PS → Ex × PS} (hF : Shf T i f g) (hM : Mon (T.drop i) g) : Shf T i (namedFactor T f) (namedFactor (T.drop i) g) := by
  intro s hg
  have hT' := toks_drop hT hi
  have h1 := mon_nameP hT' s hg
  unfold namedFactor
  rw [sh_nameP hi]
  generalize nameP (T.drop i) s = r at *
  show (if sees T (bs [40]) (sh i r.2) = true then (Ex.call r.1.1 r.1.2 (argsOf T f (adv (sh i r.2))).1, (argsOf T f (adv (sh i r.2))).2) else if sees T (bs [91]) (sh i r.2) = true then (Ex.elem r.1.1 r.1.2 (indexOf T f (adv (sh i r.2))).1, (indexOf T f (adv (sh i r.2))).2) else (Ex.var r.1.1 r.1.2, sh i r.2)) = _
  rw [sh_sees, sh_sees, sh_adv]
  by_cases h : sees (T.drop i) (bs [40]) r.2 = true
  · rw [if_pos h, if_pos h, shf_args hT hi hF hM _ (good_adv hT' h1.1 h (bs_ne _ (by simp)))]; rfl
  · rw [if_neg h, if_neg h]
    by_cases h : sees (T.drop i) (bs [91]) r.2 = true
    · rw [if_pos h, if_pos h, shf_index hi hF _ (good_adv hT' h1.1 h (bs_ne _ (by simp)))]; rfl
    · rw [if_neg h, if_neg h]; rfl

theorem shf_factor : ∀ k, Shf T i (factorD T k) (factorD (T.drop i) k)
  | 0 => fun s hg => by
    rw [factorD, factorD, sh_fails hi]; rfl
  | k + 1 => fun s hg => by
    have hT' := toks_drop hT hi
    have ih := shf_factor k
    have hx := shf_expr hT hi ih (mon_factorD hT' k)
    rw [factorD, factorD, sh_kind, sh_kind, sh_sees, sh_sees, sh_sees, sh_numP hi, sh_adv, sh_fails hi]
    by_cases h : kindIs (T.drop i) .number s = true
    · rw [if_pos h, if_pos h]; rfl
    · rw [if_neg h, if_neg h]
      by_cases h : kindIs (T.drop i) .name s = true
      · rw [if_pos h, if_pos h]; exact shf_namedFactor hT hi hx (mon_exprOf hT' (mon_factorD hT' k)) s hg
      · rw [if_neg h, if_neg h]
        by_cases h : sees (T.drop i) (bs [40]) s = true
        · rw [if_pos h, if_pos h, hx _ (good_adv hT' hg h (bs_ne _ (by simp)))]
          show (_, want T (bs [41]) (sh i _)) = _
          rw [sh_want hi]; rfl
        · rw [if_neg h, if_neg h]
          by_cases h : sees (T.drop i) (bs [45]) s = true
          · rw [if_pos h, if_pos h, ih _ (good_adv hT' hg h (bs_ne _ (by simp)))]; rfl
          · rw [if_neg h, if_neg h]
            by_cases h : sees (T.drop i) (bs [110, 111, 116]) s = true
            · rw [if_pos h, if_pos h, ih _ (good_adv hT' hg h (bs_ne _ (by simp)))]; rfl
            · rw [if_neg h, if_neg h]; rfl

theorem shf_exprD (k : Nat) : Shf T i (exprD T k) (exprD (T.drop i) k) := shf_expr hT hi (shf_factor hT hi k) (mon_factorD (toks_drop hT hi) k)

theorem shf_namedSt {f g : PS → Ex × PS} (hF : Shf T i f g) (hM : Mon (T.drop i) g) : Shf T i (namedSt T f) (namedSt (T.drop i) g) := by
  intro s hg
  have hT' := toks_drop hT hi
  have h1 := mon_nameP hT' s hg
  unfold namedSt
  rw [sh_nameP hi]
  generalize nameP (T.drop i) s = r at *
  show (if sees T (bs [40]) (sh i r.2) = true then (St.proc r.1.1 r.1.2 (argsOf T f (adv (sh i r.2))).1, (argsOf T f (adv (sh i r.2))).2) else if sees T (bs [91]) (sh i r.2) = true then (St.put r.1.1 r.1.2 (indexOf T f (adv (sh i r.2))).1 (f (want T (bs [58, 61]) (indexOf T f (adv (sh i r.2))).2)).1, (f (want T (bs [58, 61]) (indexOf T f (adv (sh i r.2))).2)).2) else (St.assign r.1.1 r.1.2 (f (want T (bs [58, 61]) (sh i r.2))).1, (f (want T (bs [58, 61]) (sh i r.2))).2)) = _
  rw [sh_sees, sh_sees, sh_adv]
  by_cases h : sees (T.drop i) (bs [40]) r.2 = true
  · rw [if_pos h, if_pos h, shf_args hT hi hF hM _ (good_adv hT' h1.1 h (bs_ne _ (by simp)))]; rfl
  · rw [if_neg h, if_neg h]
    by_cases h : sees (T.drop i) (bs [91]) r.2 = true
    · have hga := good_adv hT' h1.1 h (bs_ne _ (by simp))
      have hgi := (mon_indexOf hT' hM _ hga).1
      rw [if_pos h, if_pos h, shf_index hi hF _ hga]
      show (St.put r.1.1 r.1.2 _ (f (want T (bs [58, 61]) (sh i _))).1, (f (want T (bs [58, 61]) (sh i _))).2) = _
      rw [sh_want hi, hF _ (mon_want hT' (bs_ne _ (by simp)) hgi).1]; rfl
    · rw [if_neg h, if_neg h, sh_want hi, hF _ (mon_want hT' (bs_ne _ (by simp)) h1.1).1]; rfl

theorem shf_choice {f g : PS → Ex × PS} (hF : Shf T i f g) (hM : Mon (T.drop i) g) {u v : PS → St × PS} (hU : Shf T i u v) (hN : Mon (T.drop i) v) : Shf T i (choiceSt T f u) (choiceSt (T.drop i) g v) := by
  intro s hg
  have hT' := toks_drop hT hi
  have h1 := (hM s hg).1
  unfold choiceSt
  rw [hF s hg]
  generalize g s = r at *
  have hw := (mon_want hT' (f := bs [116, 104, 101, 110]) (bs_ne _ (by simp)) h1).1
  have e : u (want T (bs [116, 104, 101, 110]) (shR i r).2) = shR i (v (want (T.drop i) (bs [116, 104, 101, 110]) r.2)) := by
    show u (want T (bs [116, 104, 101, 110]) (sh i r.2)) = _
    rw [sh_want hi, hU _ hw]
  rw [e]
  have h2 := (hN _ hw).1
  generalize v (want (T.drop i) (bs [116, 104, 101, 110]) r.2) = q at *
  show (if sees T (bs [101, 108, 115, 101]) (sh i q.2) = true then (St.ite r.1 q.1 (u (adv (sh i q.2))).1, (u (adv (sh i q.2))).2) else (St.ite r.1 q.1 .nil, sh i q.2)) = _
  rw [sh_sees, sh_adv]
  by_cases h : sees (T.drop i) (bs [101, 108, 115, 101]) q.2 = true
  · rw [if_pos h, if_pos h, hU _ (good_adv hT' h2 h (bs_ne _ (by simp)))]; rfl
  · rw [if_neg h, if_neg h]; rfl

theorem shf_while {f g : PS → Ex × PS} (hF : Shf T i f g) (hM : Mon (T.drop i) g) {u v : PS → St × PS} (hU : Shf T i u v) : Shf T i (whileSt T f u) (whileSt (T.drop i) g v) := by
  intro s hg
  have hT' := toks_drop hT hi
  have h1 := (hM s hg).1
  unfold whileSt
  rw [hF s hg]
  generalize g s = r at *
  have hw := (mon_want hT' (f := bs [100, 111]) (bs_ne _ (by simp)) h1).1
  have e : u (want T (bs [100, 111]) (shR i r).2) = shR i (v (want (T.drop i) (bs [100, 111]) r.2)) := by
    show u (want T (bs [100, 111]) (sh i r.2)) = _
    rw [sh_want hi, hU _ hw]
  rw [e]; rfl

omit hT hi in
theorem shf_listOne {u v : PS → St × PS} (hU : Shf T i u v) : Shf T i (listOne T u) (listOne (T.drop i) v) := by
  intro s hg
  unfold listOne
  rw [sh_sees, sh_sees, hU s hg]
  split <;> rfl

theorem shf_listLoop {u v : PS → St × PS} (hU : Shf T i u v) (hN : Mon (T.drop i) v) : ∀ (n : Nat) (l : List St) (s : PS), Good (T.drop i) s → listLoop T u n l (sh i s) = shR i (listLoop (T.drop i) v n l s)
  | 0, l, s, hg => rfl
  | n + 1, l, s, hg => by
    have hT' := toks_drop hT hi
    have h1 := (mon_listOne hN s hg).1
    rw [listLoop, listLoop, shf_listOne hU s hg]
    generalize listOne (T.drop i) v s = r at *
    show (if sees T (bs [59]) (sh i r.2) = true then listLoop T u n (l ++ r.1) (adv (sh i r.2)) else (l ++ r.1, sh i r.2)) = _
    rw [sh_sees, sh_adv]
    by_cases h : sees (T.drop i) (bs [59]) r.2 = true
    · rw [if_pos h, if_pos h]
      exact shf_listLoop hU hN n _ _ (good_adv hT' h1 h (bs_ne _ (by simp)))
    · rw [if_neg h, if_neg h]; rfl

theorem shf_listOf {u v : PS → St × PS} (hU : Shf T i u v) (hN : Mon (T.drop i) v) : Shf T i (listOf T u) (listOf (T.drop i) v) := by
  intro s hg
  have hT' := toks_drop hT hi
  unfold listOf
  rw [shf_listLoop hT hi hU hN T.length _ _ hg]
  rw [listLoop_fuel hT' hN T.length (T.drop i).length _ _ hg (by rw [List.length_drop]; omega) (by omega)]

theorem shf_stmt : ∀ k, Shf T i (stmtD T k) (stmtD (T.drop i) k)
  | 0 => fun s hg => by
    rw [stmtD, stmtD, sh_fails hi]; rfl
  | k + 1 => fun s hg => by
    have hT' := toks_drop hT hi
    have ih := shf_stmt k
    have hx := shf_exprD hT hi k
    have hm := mon_exprD hT' k
    have hn := mon_stmtD hT' k
    rw [stmtD, stmtD, sh_kind, sh_sees, sh_sees, sh_sees, sh_sees, sh_sees, sh_adv, sh_nameP hi, sh_fails hi]
    by_cases h : kindIs (T.drop i) .name s = true
    · rw [if_pos h, if_pos h]; exact shf_namedSt hT hi hx hm s hg
    · rw [if_neg h, if_neg h]
      by_cases h : sees (T.drop i) (bs [105, 102]) s = true
      · rw [if_pos h, if_pos h]; exact shf_choice hT hi hx hm ih hn _ (good_adv hT' hg h (bs_ne _ (by simp)))
      · rw [if_neg h, if_neg h]
        by_cases h : sees (T.drop i) (bs [119, 104, 105, 108, 101]) s = true
        · rw [if_pos h, if_pos h]; exact shf_while hT hi hx hm ih _ (good_adv hT' hg h (bs_ne _ (by simp)))
        · rw [if_neg h, if_neg h]
          by_cases h : sees (T.drop i) (bs [98, 101, 103, 105, 110]) s = true
          · rw [if_pos h, if_pos h, shf_listOf hT hi ih hn _ (good_adv hT' hg h (bs_ne _ (by simp)))]
            show (_, want T (bs [101, 110, 100]) (sh i _)) = _
            rw [sh_want hi]; rfl
          · rw [if_neg h, if_neg h]
            by_cases h : sees (T.drop i) (bs [119, 114, 105, 116, 101]) s = true
            · rw [if_pos h, if_pos h, hx _ (good_adv hT' hg h (bs_ne _ (by simp)))]; rfl
            · rw [if_neg h, if_neg h]
              by_cases h : sees (T.drop i) (bs [114, 101, 97, 100]) s = true
              · rw [if_pos h, if_pos h]; rfl
              · rw [if_neg h, if_neg h]; rfl

end

end Go.Proofs.YtklobognaldjpaaGreat
