/- Plain functions: a text that is laid out of tokens, with something between them, has these tokens. Plain functions: a reader that stands behind the first tokens reads as one that has the others alone. -/
import Derived.Test.YtklobognaldjpaaGreatCPure5
import Derived.KernelRfl
import Derived.Test.YtklobognaldjpaaGreatCLook5
set_option maxRecDepth 1000000
namespace Go.Proofs.YtklobognaldjpaaGreat
inductive GapL : List UInt8 -> Prop
 | nil : GapL []
 | step (a g : List UInt8) : a ≠ [] -> (∀ X, gapSz (a ++ (g ++ X)) = a.length) -> GapL g -> GapL (a ++ g)
theorem gap_overL {g : List UInt8} (hg : GapL g) : ∀ (L : List UInt8) (p : Nat) (X : List UInt8), L.drop p = g ++ X -> gapSz X = 0 -> gap L p = p + g.length := by
 induction hg with
 | nil =>
  intro L p X h hX
  rw [List.nil_append] at h
  rw [gap, h, if_pos hX]
  split <;> rfl
 | step a g ha hs _ ih =>
  intro L p X h hX
  have hp : p < L.length := by
   have h1 : (L.drop p).length = (a ++ g ++ X).length := by rw [h]
   have h2 : 0 < a.length := List.length_pos_iff.2 ha
   simp only [List.length_drop, List.length_append] at h1
   omega
  have e : gapSz (L.drop p) = a.length := by rw [h, List.append_assoc]; exact hs X
  have h2 : 0 < a.length := List.length_pos_iff.2 ha
  rw [gap, if_pos hp, e, if_neg (by omega)]
  rw [ih L (p + a.length) X (by rw [<- List.drop_drop, h, List.append_assoc, List.drop_left]) hX, List.length_append]
  omega
def Brk (X : List UInt8) : Prop := X = [] ∨ ∃ c r, X = c :: r /\ (c = 32 ∨ c = 10 ∨ c = 123)
structure TokOk (t : List UInt8) (k : TK) (v : Nat) : Prop where
 gap : ∀ X, gapSz (t ++ X) = 0
 lex : ∀ X, Brk X -> lex1 (t ++ X) = .ok (k, t.length, v)
 ne : t ≠ []
structure Pc where
 text : List UInt8
 kind : TK
 val : Nat
 gap : List UInt8
def lay (ps : List Pc) : List UInt8 := ps.flatMap fun p => p.text ++ p.gap
def toksP : Nat -> List Pc -> List Tok
 | _, [] => []
 | q, p :: r => ⟨p.kind, ⟨p.text.toArray⟩, p.val, q⟩ :: toksP (q + p.text.length + p.gap.length) r
structure PcOk (p : Pc) : Prop where
 tok : TokOk p.text p.kind p.val
 gapl : GapL p.gap
 brk : ∃ c r, p.gap = c :: r /\ (c = 32 ∨ c = 10 ∨ c = 123)
theorem lay_cons (p : Pc) (r : List Pc) : lay (p :: r) = p.text ++ (p.gap ++ lay r) := by
 unfold lay; rw [List.flatMap_cons, List.append_assoc]
theorem lay_gapSz {ps : List Pc} (h : ∀ p ∈ ps, PcOk p) {X : List UInt8} (hX : gapSz X = 0) : gapSz (lay ps ++ X) = 0 := by
 cases ps with
 | nil => exact hX
 | cons p r => rw [lay_cons, List.append_assoc]; exact (h p (by simp)).tok.gap _
def thenToks (a : List Tok) (x : Except (Nat × Nat) (List Tok)) : Except (Nat × Nat) (List Tok) := match x with | .error e => .error e | .ok r => .ok (a ++ r)
theorem lexAt_lay : ∀ (ps : List Pc) (L : List UInt8) (q : Nat) (X : List UInt8), (∀ p ∈ ps, PcOk p) -> L.drop q = lay ps ++ X -> gapSz X = 0 ->
  lexAt L q = thenToks (toksP q ps) (lexAt L (q + (lay ps).length))
 | [], L, q, X, _, _, _ => by
  show lexAt L q = thenToks [] (lexAt L (q + 0))
  unfold thenToks
  rw [Nat.add_zero]
  cases lexAt L q <;> rfl
 | p :: r, L, q, X, hp, h, hX => by
  have h0 := hp p (by simp)
  have hr : ∀ x ∈ r, PcOk x := fun x hx => hp x (by simp [hx])
  rw [lay_cons, List.append_assoc, List.append_assoc] at h
  have hq : q < L.length := by
   have h1 : (L.drop q).length = (p.text ++ (p.gap ++ (lay r ++ X))).length := by rw [h]
   have h2 : 0 < p.text.length := List.length_pos_iff.2 h0.tok.ne
   simp only [List.length_drop, List.length_append] at h1
   omega
  have hx : lex1 (L.drop q) = .ok (p.kind, p.text.length, p.val) := by
   rw [h]
   refine h0.tok.lex _ (Or.inr ?_)
   obtain ⟨c, g, e, hc⟩ := h0.brk
   exact ⟨c, g ++ (lay r ++ X), by rw [e]; rfl, hc⟩
  have hd : L.drop (q + p.text.length) = p.gap ++ (lay r ++ X) := by rw [<- List.drop_drop, h, List.drop_left]
  have hgap : gap L (q + p.text.length) = q + p.text.length + p.gap.length := gap_overL h0.gapl L _ _ hd (lay_gapSz hr hX)
  rw [lexAt_ok hq hx]
  show (match lexAt L (gap L (q + p.text.length)) with | .error e => Except.error e | .ok r => .ok (mkTok L q (p.kind, p.text.length, p.val) :: r)) = _
  rw [hgap]
  rw [lexAt_lay r L _ X hr (by rw [<- List.drop_drop, hd, List.drop_left]) hX]
  have e2 : q + p.text.length + p.gap.length + (lay r).length = q + (lay (p :: r)).length := by
   rw [lay_cons, List.length_append, List.length_append]; omega
  have e3 : mkTok L q (p.kind, p.text.length, p.val) = ⟨p.kind, ⟨p.text.toArray⟩, p.val, q⟩ := by
   unfold mkTok
   rw [h]
   simp
  rw [e2, e3]
  unfold thenToks
  cases lexAt L (q + (lay (p :: r)).length) <;> rfl
theorem lexAll_at {L : List UInt8} (h : gapSz L = 0) : lexAll L = lexAt L 0 := by
 unfold lexAll
 rw [gap_overL .nil L 0 L rfl h]; rfl
theorem lexAt_last {L t : List UInt8} {k : TK} {v q : Nat} (ht : TokOk t k v) (h : L.drop q = t) : lexAt L q = .ok [⟨k, ⟨t.toArray⟩, v, q⟩, ⟨.over, ⟨#[]⟩, 0, L.length⟩] := by
 have h2 : 0 < t.length := List.length_pos_iff.2 ht.ne
 have h1 : (L.drop q).length = t.length := by rw [h]
 rw [List.length_drop] at h1
 have hx : lex1 (L.drop q) = .ok (k, t.length, v) := by
  have := ht.lex [] (Or.inl rfl)
  rw [List.append_nil] at this
  rw [h]; exact this
 rw [lexAt_ok (by omega) hx]
 have hgap : gap L (q + t.length) = q + t.length := by
  rw [gap]; split
  ·omega
  ·rfl
 have e3 : mkTok L q (k, t.length, v) = ⟨k, ⟨t.toArray⟩, v, q⟩ := by
  unfold mkTok
  rw [h]
  simp
 show (match lexAt L (gap L (q + t.length)) with | .error e => Except.error e | .ok r => .ok (mkTok L q (k, t.length, v) :: r)) = _
 rw [hgap, lexAt_end (by omega), e3]
 rfl
theorem lexAll_lay {ps : List Pc} {t : List UInt8} {k : TK} {v : Nat} (hp : ∀ p ∈ ps, PcOk p) (ht : TokOk t k v) :
  lexAll (lay ps ++ t) = .ok (toksP 0 ps ++ [⟨k, ⟨t.toArray⟩, v, (lay ps).length⟩, ⟨.over, ⟨#[]⟩, 0, (lay ps).length + t.length⟩]) := by
 have hX : gapSz t = 0 := by have := ht.gap []; rwa [List.append_nil] at this
 rw [lexAll_at (lay_gapSz hp hX)]
 rw [lexAt_lay ps _ 0 t hp rfl hX, Nat.zero_add]
 rw [lexAt_last ht (by rw [List.drop_left]), List.length_append]
 rfl
def sh (i : Nat) (s : PS) : PS := { s with next := i + s.next }
def shR {α : Type} (i : Nat) (r : α × PS) : α × PS := (r.1, sh i r.2)
def Shf (T : List Tok) (i : Nat) {α : Type} (f g : PS -> α × PS) : Prop := ∀ s, Good (T.drop i) s -> f (sh i s) = shR i (g s)
section
variable {T : List Tok} {i : Nat} (hi : i < T.length)
theorem sh_cur (s : PS) : cur T (sh i s) = cur (T.drop i) s := by
 unfold cur sh
 simp only [List.getD_eq_getElem?_getD, List.getElem?_drop]
theorem sh_sees (f : ByteArray) (s : PS) : sees T f (sh i s) = sees (T.drop i) f s := by unfold sees; rw [sh_cur]
theorem sh_any (fs : List ByteArray) (s : PS) : seesAny T fs (sh i s) = seesAny (T.drop i) fs s := by
 unfold seesAny; simp only [sh_sees]
theorem sh_kind (k : TK) (s : PS) : kindIs T k (sh i s) = kindIs (T.drop i) k s := by unfold kindIs; rw [sh_cur]
theorem sh_adv (s : PS) : adv (sh i s) = sh i (adv s) := rfl
include hi
theorem sh_fails (c : Nat) (s : PS) : fails T c (sh i s) = sh i (fails (T.drop i) c s) := by
 unfold fails
 rw [sh_cur]
 unfold sh
 simp only [List.length_drop, PS.mk.injEq, true_and]
 omega
theorem sh_want (f : ByteArray) (s : PS) : want T f (sh i s) = sh i (want (T.drop i) f s) := by
 unfold want
 rw [sh_sees, sh_fails hi, sh_adv]
 split <;> rfl
theorem sh_nameP (s : PS) : nameP T (sh i s) = shR i (nameP (T.drop i) s) := by
 unfold nameP
 rw [sh_kind, sh_cur, sh_fails hi, sh_adv]
 split <;> rfl
theorem sh_numP (s : PS) : numP T (sh i s) = shR i (numP (T.drop i) s) := by
 unfold numP
 rw [sh_kind, sh_cur, sh_fails hi, sh_adv]
 split <;> rfl
omit hi
theorem toks_drop (hT : Toks T) (hi : i < T.length) : Toks (T.drop i) := by
 refine ⟨by simp; omega, fun t ht => hT.last t ?_⟩
 rw [List.getElem?_drop, List.length_drop] at ht
 rw [<- ht]
 congr 1
 omega
variable (hT : Toks T)
include hT
theorem chainLoop_fuel {pf : PS -> Ex × PS} (hM : Mon T pf) {fs : List ByteArray} (hfs : ∀ f ∈ fs, f.toList ≠ []) : ∀ (n k : Nat) (l : Ex) (s : PS), Good T s -> T.length - s.next <= n -> T.length - s.next <= k -> chainLoop T pf fs n l s = chainLoop T pf fs k l s
 | 0, _, l, s, hg, h1, _ => by unfold Good at hg; omega
 | n + 1, 0, l, s, hg, _, h2 => by unfold Good at hg; omega
 | n + 1, k + 1, l, s, hg, h1, h2 => by
  rw [chainLoop, chainLoop]
  split
  ·rename_i h
   unfold seesAny at h
   rw [List.any_eq_true] at h
   obtain ⟨f, hf, h⟩ := h
   have hga := good_adv hT hg h (hfs f hf)
   have h3 := hM (adv s) hga
   have e : (adv s).next = s.next + 1 := rfl
   exact chainLoop_fuel hM hfs n k _ _ h3.1 (by omega) (by omega)
  ·rfl
theorem argsLoop_fuel {pf : PS -> Ex × PS} (hM : Mon T pf) : ∀ (n k : Nat) (l : List Ex) (s : PS), Good T s -> T.length - s.next <= n -> T.length - s.next <= k -> argsLoop T pf n l s = argsLoop T pf k l s
 | 0, _, l, s, hg, h1, _ => by unfold Good at hg; omega
 | n + 1, 0, l, s, hg, _, h2 => by unfold Good at hg; omega
 | n + 1, k + 1, l, s, hg, h1, h2 => by
  rw [argsLoop, argsLoop]
  split
  ·rename_i h
   have hga := good_adv hT hg h (bs_ne _ (by simp))
   have h3 := hM (adv s) hga
   have e : (adv s).next = s.next + 1 := rfl
   exact argsLoop_fuel hM n k _ _ h3.1 (by omega) (by omega)
  ·rfl
theorem listLoop_fuel {st : PS -> St × PS} (hM : Mon T st) : ∀ (n k : Nat) (l : List St) (s : PS), Good T s -> T.length - s.next <= n -> T.length - s.next <= k -> listLoop T st n l s = listLoop T st k l s
 | 0, _, l, s, hg, h1, _ => by unfold Good at hg; omega
 | n + 1, 0, l, s, hg, _, h2 => by unfold Good at hg; omega
 | n + 1, k + 1, l, s, hg, h1, h2 => by
  rw [listLoop, listLoop]
  split
  ·rename_i h
   have h0 := mon_listOne hM s hg
   have hga := good_adv hT h0.1 h (bs_ne _ (by simp))
   have e : (adv (listOne T st s).2).next = (listOne T st s).2.next + 1 := rfl
   exact listLoop_fuel hM n k _ _ hga (by omega) (by omega)
  ·rfl
end
section
variable {T : List Tok} {i : Nat} (hT : Toks T) (hi : i < T.length)
include hT hi
theorem shf_chainLoop {f g : PS -> Ex × PS} (hF : Shf T i f g) (hM : Mon (T.drop i) g) {fs : List ByteArray} (hfs : ∀ x ∈ fs, x.toList ≠ []) : ∀ (n : Nat) (l : Ex) (s : PS), Good (T.drop i) s -> chainLoop T f fs n l (sh i s) = shR i (chainLoop (T.drop i) g fs n l s)
 | 0, l, s, hg => rfl
 | n + 1, l, s, hg => by
  have hT' := toks_drop hT hi
  rw [chainLoop, chainLoop, sh_any, sh_cur]
  by_cases h : seesAny (T.drop i) fs s = true
  ·rw [if_pos h, if_pos h]
   unfold seesAny at h
   rw [List.any_eq_true] at h
   obtain ⟨x, hx, h⟩ := h
   have hga := good_adv hT' hg h (hfs x hx)
   rw [sh_adv, hF _ hga]
   exact shf_chainLoop hF hM hfs n _ _ (hM _ hga).1
  ·rw [if_neg h, if_neg h]; rfl
theorem shf_chain {f g : PS -> Ex × PS} (hF : Shf T i f g) (hM : Mon (T.drop i) g) {fs : List ByteArray} (hfs : ∀ x ∈ fs, x.toList ≠ []) : Shf T i (chain T f fs) (chain (T.drop i) g fs) := by
 intro s hg
 have hT' := toks_drop hT hi
 have h1 := hM s hg
 unfold chain
 rw [hF s hg]
 show chainLoop T f fs T.length (g s).1 (sh i (g s).2) = _
 rw [shf_chainLoop hT hi hF hM hfs T.length _ _ h1.1]
 rw [chainLoop_fuel hT' hM hfs T.length (T.drop i).length _ _ h1.1 (by rw [List.length_drop]; omega) (by omega)]
theorem shf_test {f g : PS -> Ex × PS} (hF : Shf T i f g) (hM : Mon (T.drop i) g) : Shf T i (testP T f) (testP (T.drop i) g) := by
 intro s hg
 have hT' := toks_drop hT hi
 have h1 := hM s hg
 unfold testP
 rw [hF s hg]
 show (if seesAny T testOps (sh i (g s).2) = true then (Ex.bin (cur T (sh i (g s).2)).text (g s).1 (f (adv (sh i (g s).2))).1, (f (adv (sh i (g s).2))).2) else shR i (g s)) = _
 rw [sh_any, sh_cur, sh_adv]
 by_cases h : seesAny (T.drop i) testOps (g s).2 = true
 ·rw [if_pos h, if_pos h]
  unfold seesAny at h
  rw [List.any_eq_true] at h
  obtain ⟨x, hx, h⟩ := h
  rw [hF _ (good_adv hT' h1.1 h (ops_ne.2.2.1 x hx))]
  rfl
 ·rw [if_neg h, if_neg h]
theorem shf_expr {f g : PS -> Ex × PS} (hF : Shf T i f g) (hM : Mon (T.drop i) g) : Shf T i (exprOf T f) (exprOf (T.drop i) g) := by
 have hT' := toks_drop hT hi
 have h1 : Shf T i (sumOf T f) (sumOf (T.drop i) g) := shf_chain hT hi (shf_chain hT hi hF hM ops_ne.1) (mon_termOf hT' hM) ops_ne.2.1
 have h2 : Shf T i (testOf T f) (testOf (T.drop i) g) := shf_test hT hi h1 (mon_sumOf hT' hM)
 exact shf_chain hT hi (shf_chain hT hi h2 (mon_testOf hT' hM) ops_ne.2.2.2.1) (mon_andOf hT' hM) ops_ne.2.2.2.2
theorem shf_argsLoop {f g : PS -> Ex × PS} (hF : Shf T i f g) (hM : Mon (T.drop i) g) : ∀ (n : Nat) (l : List Ex) (s : PS), Good (T.drop i) s -> argsLoop T f n l (sh i s) = shR i (argsLoop (T.drop i) g n l s)
 | 0, l, s, hg => rfl
 | n + 1, l, s, hg => by
  have hT' := toks_drop hT hi
  rw [argsLoop, argsLoop, sh_sees]
  by_cases h : sees (T.drop i) (bs [44]) s = true
  ·rw [if_pos h, if_pos h]
   have hga := good_adv hT' hg h (bs_ne _ (by simp))
   rw [sh_adv, hF _ hga]
   exact shf_argsLoop hF hM n _ _ (hM _ hga).1
  ·rw [if_neg h, if_neg h]; rfl
theorem shf_args {f g : PS -> Ex × PS} (hF : Shf T i f g) (hM : Mon (T.drop i) g) : Shf T i (argsOf T f) (argsOf (T.drop i) g) := by
 intro s hg
 have hT' := toks_drop hT hi
 have h1 := hM s hg
 unfold argsOf
 rw [hF s hg, sh_sees, sh_adv]
 have e : argsLoop T f T.length [(shR i (g s)).1] (shR i (g s)).2 = shR i (argsLoop (T.drop i) g (T.drop i).length [(g s).1] (g s).2) := by
  show argsLoop T f T.length [(g s).1] (sh i (g s).2) = _
  rw [shf_argsLoop hT hi hF hM T.length _ _ h1.1]
  rw [argsLoop_fuel hT' hM T.length (T.drop i).length _ _ h1.1 (by rw [List.length_drop]; omega) (by omega)]
 rw [e]
 split
 ·rfl
 ·show (_, want T (bs [41]) (sh i _)) = _
  rw [sh_want hi]; rfl
omit hT in
theorem shf_index {f g : PS -> Ex × PS} (hF : Shf T i f g) : Shf T i (indexOf T f) (indexOf (T.drop i) g) := by
 intro s hg
 unfold indexOf
 rw [hF s hg]
 show (_, want T (bs [93]) (sh i _)) = _
 rw [sh_want hi]; rfl
theorem shf_namedFactor {f g : PS -> Ex × PS} (hF : Shf T i f g) (hM : Mon (T.drop i) g) : Shf T i (namedFactor T f) (namedFactor (T.drop i) g) := by
 intro s hg
 have hT' := toks_drop hT hi
 have h1 := mon_nameP hT' s hg
 unfold namedFactor
 rw [sh_nameP hi]
 generalize nameP (T.drop i) s = r at *
 show (if sees T (bs [40]) (sh i r.2) = true then (Ex.call r.1.1 r.1.2 (argsOf T f (adv (sh i r.2))).1, (argsOf T f (adv (sh i r.2))).2) else if sees T (bs [91]) (sh i r.2) = true then (Ex.elem r.1.1 r.1.2 (indexOf T f (adv (sh i r.2))).1, (indexOf T f (adv (sh i r.2))).2) else (Ex.var r.1.1 r.1.2, sh i r.2)) = _
 rw [sh_sees, sh_sees, sh_adv]
 by_cases h : sees (T.drop i) (bs [40]) r.2 = true
 ·rw [if_pos h, if_pos h, shf_args hT hi hF hM _ (good_adv hT' h1.1 h (bs_ne _ (by simp)))]; rfl
 ·rw [if_neg h, if_neg h]
  by_cases h : sees (T.drop i) (bs [91]) r.2 = true
  ·rw [if_pos h, if_pos h, shf_index hi hF _ (good_adv hT' h1.1 h (bs_ne _ (by simp)))]; rfl
  ·rw [if_neg h, if_neg h]; rfl
theorem shf_factor : ∀ k, Shf T i (factorD T k) (factorD (T.drop i) k)
 | 0 => fun s hg => by
  rw [factorD, factorD, sh_fails hi]; rfl
 | k + 1 => fun s hg => by
  have hT' := toks_drop hT hi
  have ih := shf_factor k
  have hx := shf_expr hT hi ih (mon_factorD hT' k)
  rw [factorD, factorD, sh_kind, sh_kind, sh_sees, sh_sees, sh_sees, sh_numP hi, sh_adv, sh_fails hi]
  by_cases h : kindIs (T.drop i) .number s = true
  ·rw [if_pos h, if_pos h]; rfl
  ·rw [if_neg h, if_neg h]
   by_cases h : kindIs (T.drop i) .name s = true
   ·rw [if_pos h, if_pos h]; exact shf_namedFactor hT hi hx (mon_exprOf hT' (mon_factorD hT' k)) s hg
   ·rw [if_neg h, if_neg h]
    by_cases h : sees (T.drop i) (bs [40]) s = true
    ·rw [if_pos h, if_pos h, hx _ (good_adv hT' hg h (bs_ne _ (by simp)))]
     show (_, want T (bs [41]) (sh i _)) = _
     rw [sh_want hi]; rfl
    ·rw [if_neg h, if_neg h]
     by_cases h : sees (T.drop i) (bs [45]) s = true
     ·rw [if_pos h, if_pos h, ih _ (good_adv hT' hg h (bs_ne _ (by simp)))]; rfl
     ·rw [if_neg h, if_neg h]
      by_cases h : sees (T.drop i) (bs [110, 111, 116]) s = true
      ·rw [if_pos h, if_pos h, ih _ (good_adv hT' hg h (bs_ne _ (by simp)))]; rfl
      ·rw [if_neg h, if_neg h]; rfl
theorem shf_exprD (k : Nat) : Shf T i (exprD T k) (exprD (T.drop i) k) := shf_expr hT hi (shf_factor hT hi k) (mon_factorD (toks_drop hT hi) k)
theorem shf_namedSt {f g : PS -> Ex × PS} (hF : Shf T i f g) (hM : Mon (T.drop i) g) : Shf T i (namedSt T f) (namedSt (T.drop i) g) := by
 intro s hg
 have hT' := toks_drop hT hi
 have h1 := mon_nameP hT' s hg
 unfold namedSt
 rw [sh_nameP hi]
 generalize nameP (T.drop i) s = r at *
 show (if sees T (bs [40]) (sh i r.2) = true then (St.proc r.1.1 r.1.2 (argsOf T f (adv (sh i r.2))).1, (argsOf T f (adv (sh i r.2))).2) else if sees T (bs [91]) (sh i r.2) = true then (St.put r.1.1 r.1.2 (indexOf T f (adv (sh i r.2))).1 (f (want T (bs [58, 61]) (indexOf T f (adv (sh i r.2))).2)).1, (f (want T (bs [58, 61]) (indexOf T f (adv (sh i r.2))).2)).2) else (St.assign r.1.1 r.1.2 (f (want T (bs [58, 61]) (sh i r.2))).1, (f (want T (bs [58, 61]) (sh i r.2))).2)) = _
 rw [sh_sees, sh_sees, sh_adv]
 by_cases h : sees (T.drop i) (bs [40]) r.2 = true
 ·rw [if_pos h, if_pos h, shf_args hT hi hF hM _ (good_adv hT' h1.1 h (bs_ne _ (by simp)))]; rfl
 ·rw [if_neg h, if_neg h]
  by_cases h : sees (T.drop i) (bs [91]) r.2 = true
  ·have hga := good_adv hT' h1.1 h (bs_ne _ (by simp))
   have hgi := (mon_indexOf hT' hM _ hga).1
   rw [if_pos h, if_pos h, shf_index hi hF _ hga]
   show (St.put r.1.1 r.1.2 _ (f (want T (bs [58, 61]) (sh i _))).1, (f (want T (bs [58, 61]) (sh i _))).2) = _
   rw [sh_want hi, hF _ (mon_want hT' (bs_ne _ (by simp)) hgi).1]; rfl
  ·rw [if_neg h, if_neg h, sh_want hi, hF _ (mon_want hT' (bs_ne _ (by simp)) h1.1).1]; rfl
theorem shf_choice {f g : PS -> Ex × PS} (hF : Shf T i f g) (hM : Mon (T.drop i) g) {u v : PS -> St × PS} (hU : Shf T i u v) (hN : Mon (T.drop i) v) : Shf T i (choiceSt T f u) (choiceSt (T.drop i) g v) := by
 intro s hg
 have hT' := toks_drop hT hi
 have h1 := (hM s hg).1
 unfold choiceSt
 rw [hF s hg]
 generalize g s = r at *
 have hw := (mon_want hT' (f := bs [116, 104, 101, 110]) (bs_ne _ (by simp)) h1).1
 have e : u (want T (bs [116, 104, 101, 110]) (shR i r).2) = shR i (v (want (T.drop i) (bs [116, 104, 101, 110]) r.2)) := by
  show u (want T (bs [116, 104, 101, 110]) (sh i r.2)) = _
  rw [sh_want hi, hU _ hw]
 rw [e]
 have h2 := (hN _ hw).1
 generalize v (want (T.drop i) (bs [116, 104, 101, 110]) r.2) = q at *
 show (if sees T (bs [101, 108, 115, 101]) (sh i q.2) = true then (St.ite r.1 q.1 (u (adv (sh i q.2))).1, (u (adv (sh i q.2))).2) else (St.ite r.1 q.1 .nil, sh i q.2)) = _
 rw [sh_sees, sh_adv]
 by_cases h : sees (T.drop i) (bs [101, 108, 115, 101]) q.2 = true
 ·rw [if_pos h, if_pos h, hU _ (good_adv hT' h2 h (bs_ne _ (by simp)))]; rfl
 ·rw [if_neg h, if_neg h]; rfl
theorem shf_while {f g : PS -> Ex × PS} (hF : Shf T i f g) (hM : Mon (T.drop i) g) {u v : PS -> St × PS} (hU : Shf T i u v) : Shf T i (whileSt T f u) (whileSt (T.drop i) g v) := by
 intro s hg
 have hT' := toks_drop hT hi
 have h1 := (hM s hg).1
 unfold whileSt
 rw [hF s hg]
 generalize g s = r at *
 have hw := (mon_want hT' (f := bs [100, 111]) (bs_ne _ (by simp)) h1).1
 have e : u (want T (bs [100, 111]) (shR i r).2) = shR i (v (want (T.drop i) (bs [100, 111]) r.2)) := by
  show u (want T (bs [100, 111]) (sh i r.2)) = _
  rw [sh_want hi, hU _ hw]
 rw [e]; rfl
omit hT hi in
theorem shf_listOne {u v : PS -> St × PS} (hU : Shf T i u v) : Shf T i (listOne T u) (listOne (T.drop i) v) := by
 intro s hg
 unfold listOne
 rw [sh_sees, sh_sees, hU s hg]
 split <;> rfl
theorem shf_listLoop {u v : PS -> St × PS} (hU : Shf T i u v) (hN : Mon (T.drop i) v) : ∀ (n : Nat) (l : List St) (s : PS), Good (T.drop i) s -> listLoop T u n l (sh i s) = shR i (listLoop (T.drop i) v n l s)
 | 0, l, s, hg => rfl
 | n + 1, l, s, hg => by
  have hT' := toks_drop hT hi
  have h1 := (mon_listOne hN s hg).1
  rw [listLoop, listLoop, shf_listOne hU s hg]
  generalize listOne (T.drop i) v s = r at *
  show (if sees T (bs [59]) (sh i r.2) = true then listLoop T u n (l ++ r.1) (adv (sh i r.2)) else (l ++ r.1, sh i r.2)) = _
  rw [sh_sees, sh_adv]
  by_cases h : sees (T.drop i) (bs [59]) r.2 = true
  ·rw [if_pos h, if_pos h]
   exact shf_listLoop hU hN n _ _ (good_adv hT' h1 h (bs_ne _ (by simp)))
  ·rw [if_neg h, if_neg h]; rfl
theorem shf_listOf {u v : PS -> St × PS} (hU : Shf T i u v) (hN : Mon (T.drop i) v) : Shf T i (listOf T u) (listOf (T.drop i) v) := by
 intro s hg
 have hT' := toks_drop hT hi
 unfold listOf
 rw [shf_listLoop hT hi hU hN T.length _ _ hg]
 rw [listLoop_fuel hT' hN T.length (T.drop i).length _ _ hg (by rw [List.length_drop]; omega) (by omega)]
theorem shf_stmt : ∀ k, Shf T i (stmtD T k) (stmtD (T.drop i) k)
 | 0 => fun s hg => by
  rw [stmtD, stmtD, sh_fails hi]; rfl
 | k + 1 => fun s hg => by
  have hT' := toks_drop hT hi
  have ih := shf_stmt k
  have hx := shf_exprD hT hi k
  have hm := mon_exprD hT' k
  have hn := mon_stmtD hT' k
  rw [stmtD, stmtD, sh_kind, sh_sees, sh_sees, sh_sees, sh_sees, sh_sees, sh_adv, sh_nameP hi, sh_fails hi]
  by_cases h : kindIs (T.drop i) .name s = true
  ·rw [if_pos h, if_pos h]; exact shf_namedSt hT hi hx hm s hg
  ·rw [if_neg h, if_neg h]
   by_cases h : sees (T.drop i) (bs [105, 102]) s = true
   ·rw [if_pos h, if_pos h]; exact shf_choice hT hi hx hm ih hn _ (good_adv hT' hg h (bs_ne _ (by simp)))
   ·rw [if_neg h, if_neg h]
    by_cases h : sees (T.drop i) (bs [119, 104, 105, 108, 101]) s = true
    ·rw [if_pos h, if_pos h]; exact shf_while hT hi hx hm ih _ (good_adv hT' hg h (bs_ne _ (by simp)))
    ·rw [if_neg h, if_neg h]
     by_cases h : sees (T.drop i) (bs [98, 101, 103, 105, 110]) s = true
     ·rw [if_pos h, if_pos h, shf_listOf hT hi ih hn _ (good_adv hT' hg h (bs_ne _ (by simp)))]
      show (_, want T (bs [101, 110, 100]) (sh i _)) = _
      rw [sh_want hi]; rfl
     ·rw [if_neg h, if_neg h]
      by_cases h : sees (T.drop i) (bs [119, 114, 105, 116, 101]) s = true
      ·rw [if_pos h, if_pos h, hx _ (good_adv hT' hg h (bs_ne _ (by simp)))]; rfl
      ·rw [if_neg h, if_neg h]
       by_cases h : sees (T.drop i) (bs [114, 101, 97, 100]) s = true
       ·rw [if_pos h, if_pos h]; rfl
       ·rw [if_neg h, if_neg h]; rfl
end
def dg (k : Nat) : List UInt8 := [UInt8.ofNat (48 + k)]
def hdrW : List (List UInt8) := [[118, 97, 114], [97], [44], [98], [44], [99], [44], [122], [91], [53], [93], [59], [102, 117, 110, 99], [102], [40], [110], [41], [98, 101, 103, 105, 110], [105, 102], [110], [60], [49], [116, 104, 101, 110], [102], [58, 61], [49], [101, 108, 115, 101], [102], [58, 61], [110], [43], [102], [40], [110], [45], [49], [41], [101, 110, 100], [59], [112, 114, 111, 99], [112], [40], [117], [44], [118], [41], [118, 97, 114], [119], [59], [98, 101, 103, 105, 110], [119], [58, 61], [117], [42], [118], [59], [97], [58, 61], [119], [45], [98], [101, 110, 100], [59], [98, 101, 103, 105, 110]]
def stW : Nat -> Nat -> List (List UInt8)
 | 0, _ => [[119, 114, 105, 116, 101], [97]]
 | 1, k => [[97], [58, 61], [97], [42], [51], [43], dg k]
 | 2, k => [[98], [58, 61], [98], [45], dg k]
 | 3, k => [[112], [40], [97], [43], [49], [44], dg k, [41]]
 | 4, k => [[119, 114, 105, 116, 101], [102], [40], dg k, [41]]
 | 5, k => [[119, 104, 105, 108, 101], [99], [60], dg k, [100, 111], [99], [58, 61], [99], [43], [49]]
 | 6, k => [[122], [91], dg k, [93], [58, 61], [97]]
 | 7, k => [[119, 114, 105, 116, 101], [122], [91], [48], [93], [37], dg k]
 | 8, _ => [[105, 102], [97], [60], [98], [111, 114], [110, 111, 116], [99], [116, 104, 101, 110], [119, 114, 105, 116, 101], [49], [101, 108, 115, 101], [98], [58, 61], [55]]
 | 9, _ => [[114, 101, 97, 100], [98]]
 | 10, k => [[119, 104, 105, 108, 101], [97], [60], [98], [97, 110, 100], [99], [60], dg k, [100, 111], [98, 101, 103, 105, 110], [99], [58, 61], [99], [43], [49], [59], [119, 114, 105, 116, 101], [99], [101, 110, 100]]
 | _, _ => [[97], [58, 61], [45], [40], [98], [43], [99], [41], [47], [50]]
def semiW : List UInt8 := [59]
def endW : List UInt8 := [101, 110, 100]
def dotW : List UInt8 := [46]
def bodyW : List (Nat × Nat) -> List (List UInt8)
 | [] => []
 | x :: r => stW x.1 x.2 ++ tailW r
where tailW : List (Nat × Nat) -> List (List UInt8)
 | [] => []
 | x :: r => semiW :: (stW x.1 x.2 ++ tailW r)
def vocW : List (List UInt8) := [[118, 97, 114], [97], [44], [98], [99], [122], [91], [53], [93], [59], [102, 117, 110, 99], [102], [40], [110], [41], [98, 101, 103, 105, 110], [105, 102], [60], [49], [116, 104, 101, 110], [58, 61], [101, 108, 115, 101], [43], [45], [101, 110, 100], [112, 114, 111, 99], [112], [117], [118], [119], [42], [119, 114, 105, 116, 101], [51], [119, 104, 105, 108, 101], [100, 111], [48], [37], [111, 114], [110, 111, 116], [55], [114, 101, 97, 100], [97, 110, 100], [47], [50], [46], [52], [54], [56]]
def tkOf (t : List UInt8) : TK × Nat := match lex1 t with | .ok x => (x.1, x.2.2) | .error _ => (.over, 0)
def toksF (p : Nat -> Nat) : List (List UInt8) -> List Tok
 | [] => []
 | t :: r => ⟨(tkOf t).1, ⟨t.toArray⟩, (tkOf t).2, p 0⟩ :: toksF (fun j => p (j + 1)) r
def overAt (e : Nat) : Tok := ⟨.over, ⟨#[]⟩, 0, e⟩
theorem toksF_append (p : Nat -> Nat) : ∀ (a b : List (List UInt8)), toksF p (a ++ b) = toksF p a ++ toksF (fun j => p (a.length + j)) b
 | [], b => by simp [toksF]
 | t :: r, b => by
  simp only [List.cons_append, toksF, List.length_cons]
  rw [toksF_append (fun j => p (j + 1)) r b]
  congr 2
  congr 1
  funext j
  congr 1
  omega
theorem toksF_length (p : Nat -> Nat) : ∀ l, (toksF p l).length = l.length
 | [] => rfl
 | t :: r => by simp only [toksF, List.length_cons]; rw [toksF_length]
theorem map_all {α β : Type} {f g : α -> β} {l : List α} (h : l.map f = l.map g) {x : α} (hx : x ∈ l) : f x = g x := List.map_inj_left.1 h x hx
def stT (p : Nat -> Nat) (kd k : Nat) : St := (stmtD (toksF p (stW kd k ++ [semiW]) ++ [overAt 0]) 14 ⟨0, 0, 0⟩).1
def termW (b : Bool) : List UInt8 := if b then semiW else endW
def oneRes (T : List Tok) (a n : Nat) : (List St × PS) × Bool := (listOne T (stmtD T 14) ⟨0, a, 0⟩, sees T (bs [59]) ⟨0, a, n⟩)
theorem st_parse_all (p : Nat -> Nat) (a : Nat) (X : List Tok) :
  (List.range 12).map (fun kd => (List.range 9).map fun k => [true, false].map fun b => oneRes (toksF p (stW kd k ++ [termW b]) ++ X) a (stW kd k).length)
  = (List.range 12).map (fun kd => (List.range 9).map fun k => [true, false].map fun b => (([stT p kd k], (⟨0, a, (stW kd k).length⟩ : PS)), b)) := by
 kernel_rfl
theorem st_parse {kd k : Nat} (hd : kd < 12) (hk : k < 9) (b : Bool) (p : Nat -> Nat) (a : Nat) (X : List Tok) :
  listOne (toksF p (stW kd k ++ [termW b]) ++ X) (stmtD (toksF p (stW kd k ++ [termW b]) ++ X) 14) ⟨0, a, 0⟩ = ([stT p kd k], ⟨0, a, (stW kd k).length⟩)
  /\ sees (toksF p (stW kd k ++ [termW b]) ++ X) (bs [59]) ⟨0, a, (stW kd k).length⟩ = b := by
 have h := map_all (map_all (map_all (st_parse_all p a X) (List.mem_range.2 hd)) (List.mem_range.2 hk)) (x := b) (by cases b <;> simp)
 exact ⟨congrArg Prod.fst h, congrArg Prod.snd h⟩
def finish (T : List Tok) (s : PS) : PS := endP T (want T (bs [46]) (want T (bs [101, 110, 100]) s))
end Go.Proofs.YtklobognaldjpaaGreat
