/- Plain: a tree is no greater than the tokens it was read from; its code is no longer than eight words a token. -/
import Derived.Test.YtklobognaldjpaaGreatCPure5
import Derived.Test.YtklobognaldjpaaGreatCOk2
import Derived.Test.YtklobognaldjpaaGreatCRun2
namespace Go.Proofs.YtklobognaldjpaaGreat
mutual
def szEx : Ex -> Nat
 | .nil => 0
 | .num _ => 1
 | .var _ _ => 1
 | .elem _ _ i => 1 + szEx i
 | .call _ _ args => 1 + szExs args
 | .bin _ l r => 1 + szEx l + szEx r
 | .un _ e => 1 + szEx e
def szExs : List Ex -> Nat
 | [] => 0
 | e :: l => szEx e + szExs l
end
mutual
def szSt : St -> Nat
 | .nil => 0
 | .assign _ _ e => 1 + szEx e
 | .put _ _ i e => 1 + szEx i + szEx e
 | .proc _ _ args => 1 + szExs args
 | .ite c t f => 1 + szEx c + szSt t + szSt f
 | .loop c b => 1 + szEx c + szSt b
 | .block l => 1 + szSts l
 | .write e => 1 + szEx e
 | .read _ _ => 1
def szSts : List St -> Nat
 | [] => 0
 | e :: l => szSt e + szSts l
end
def szGl : Gl -> Nat
 | .var _ _ => 0
 | .arr _ _ _ _ => 0
 | .proc r => 1 + szSts r.body
 | .func r => 1 + szSts r.body
def szGls : List Gl -> Nat
 | [] => 0
 | e :: l => szGl e + szGls l
theorem szExs_append (k : List Ex) : ∀ l : List Ex, szExs (l ++ k) = szExs l + szExs k
 | [] => by rw [List.nil_append, szExs]; omega
 | a :: l => by rw [List.cons_append, szExs, szExs, szExs_append k l]; omega
theorem szSts_append (k : List St) : ∀ l : List St, szSts (l ++ k) = szSts l + szSts k
 | [] => by rw [List.nil_append, szSts]; omega
 | a :: l => by rw [List.cons_append, szSts, szSts, szSts_append k l]; omega
theorem szGls_append (k : List Gl) : ∀ l : List Gl, szGls (l ++ k) = szGls l + szGls k
 | [] => by rw [List.nil_append, szGls]; omega
 | a :: l => by rw [List.cons_append, szGls, szGls, szGls_append k l]; omega
mutual
theorem cEx_sz (E : CE) : ∀ (e : Ex) (p : Nat), (cEx E p e).length <= 7 * szEx e
 | .nil, p => by rw [cEx, szEx]; simp
 | .num _, p => by rw [cEx, szEx]; simp
 | .var n _, p => by rw [cEx, szEx]; unfold CE.get; split <;> simp
 | .elem n _ i, p => by
  rw [cEx, szEx]
  have := cEx_sz E i p
  simp only [List.length_append, List.length_cons, List.length_nil]; omega
 | .call n _ args, p => by
  rw [cEx, szEx]
  have := cExs_sz E args p
  simp only [List.length_append, List.length_cons, List.length_nil]; omega
 | .bin op l r, p => by
  rw [cEx, szEx]
  have h1 := cEx_sz E l p
  split
  ·have h2 := cEx_sz E r (p + (cEx E p l).length + 2)
   simp only [List.length_append, List.length_cons, List.length_nil]; omega
  ·split
   ·have h2 := cEx_sz E r (p + (cEx E p l).length + 6)
    simp only [List.length_append, List.length_cons, List.length_nil]; omega
   ·have h2 := cEx_sz E r (p + (cEx E p l).length)
    simp only [List.length_append, List.length_cons, List.length_nil]; omega
 | .un op e, p => by
  rw [cEx, szEx]
  have := cEx_sz E e p
  simp only [List.length_append, List.length_cons, List.length_nil]; omega
theorem cExs_sz (E : CE) : ∀ (l : List Ex) (p : Nat), (cExs E p l).length <= 7 * szExs l
 | [], p => by rw [cExs]; simp
 | a :: l, p => by
  rw [cExs, szExs, List.length_append]
  have h1 := cEx_sz E a p
  have h2 := cExs_sz E l (p + (cEx E p a).length)
  omega
end
theorem set_sz (E : CE) (n : ByteArray) : (E.set n).length = 2 := by unfold CE.set; split; rfl; split <;> rfl
mutual
theorem cSt_sz (E : CE) : ∀ (s : St) (p : Nat), (cSt E p s).length <= 8 * szSt s
 | .nil, p => by rw [cSt, szSt]; simp
 | .assign n _ e, p => by
  rw [cSt, szSt]
  have := cEx_sz E e (p + 1)
  simp only [List.length_append, List.length_cons, List.length_nil, set_sz]; omega
 | .put n _ i e, p => by
  rw [cSt, szSt]
  have h1 := cEx_sz E i (p + 1)
  have h2 := cEx_sz E e (p + 1 + (cEx E (p + 1) i).length + 3)
  simp only [List.length_append, List.length_cons, List.length_nil]; omega
 | .proc n _ args, p => by
  rw [cSt, szSt]
  have := cExs_sz E args (p + 1)
  simp only [List.length_append, List.length_cons, List.length_nil]; omega
 | .ite c t f, p => by
  rw [cSt, szSt]
  have h1 := cEx_sz E c (p + 1)
  have h2 := cSt_sz E t (p + 1 + (cEx E (p + 1) c).length + 2)
  split
  ·simp only [List.length_append, List.length_cons, List.length_nil]; omega
  ·have h3 := cSt_sz E f (p + 1 + (cEx E (p + 1) c).length + 2 + (cSt E (p + 1 + (cEx E (p + 1) c).length + 2) t).length + 2)
   simp only [List.length_append, List.length_cons, List.length_nil]; omega
 | .loop c b, p => by
  rw [cSt, szSt]
  have h1 := cEx_sz E c (p + 1)
  have h2 := cSt_sz E b (p + 1 + (cEx E (p + 1) c).length + 2)
  simp only [List.length_append, List.length_cons, List.length_nil]; omega
 | .block l, p => by
  rw [cSt, szSt]
  have := cSts_sz E l p
  omega
 | .write e, p => by
  rw [cSt, szSt]
  have := cEx_sz E e (p + 1)
  simp only [List.length_append, List.length_cons, List.length_nil]; omega
 | .read n _, p => by
  rw [cSt, szSt]
  simp only [List.length_append, List.length_cons, List.length_nil, set_sz]; omega
theorem cSts_sz (E : CE) : ∀ (l : List St) (p : Nat), (cSts E p l).length <= 8 * szSts l
 | [], p => by rw [cSts]; simp
 | a :: l, p => by
  rw [cSts, szSts, List.length_append]
  have h1 := cSt_sz E a p
  have h2 := cSts_sz E l (p + (cSt E p a).length)
  omega
end
theorem cGl_sz (c : CG) (g : Gl) : (cGl c g).words.length <= c.words.length + 8 * szGl g := by
 cases g with
 | var n p => unfold cGl; simp only; omega
 | arr n p s a => unfold cGl; simp only; omega
 | proc r =>
  unfold cGl szGl
  have := cSts_sz (ceOf false (putG c.g r.name.1 (c.words.length, 0)) r) r.body (c.words.length + 2)
  simp only [List.length_append, List.length_cons, List.length_nil]; omega
 | func r =>
  unfold cGl szGl
  have := cSts_sz (ceOf true (putG c.g r.name.1 (c.words.length, 0)) r) r.body (c.words.length + 3)
  simp only [List.length_append, List.length_cons, List.length_nil]; omega
theorem cGls_sz : ∀ (l : List Gl) (c : CG), (cGls c l).words.length <= c.words.length + 8 * szGls l
 | [], c => by rw [cGls]; omega
 | g :: l, c => by
  rw [cGls, szGls]
  have h1 := cGl_sz c g
  have h2 := cGls_sz l (cGl c g)
  omega
theorem cPr_sz (p : Pr) : (cPr p).1.length <= 8 * (szGls p.globals + szSts p.body) + 1 := by
 unfold cPr
 have h1 := cGls_sz p.globals cg0
 have h2 := cSts_sz (ceTop (cGls cg0 p.globals)) p.body (cGls cg0 p.globals).words.length
 have h0 : cg0.words.length = 0 := rfl
 simp only [List.length_append, List.length_cons, List.length_nil]
 omega
def SX (T : List Tok) (f : PS -> Ex × PS) : Prop := ∀ s, Good T s -> szEx (f s).1 + s.next <= (f s).2.next
def SS (T : List Tok) (f : PS -> St × PS) : Prop := ∀ s, Good T s -> szSt (f s).1 + s.next <= (f s).2.next
section
variable {T : List Tok} (hT : Toks T)
include hT
theorem sz_chainLoop {pf : PS -> Ex × PS} (hO : SX T pf) (hM : Mon T pf) {fs : List ByteArray} (hne : ∀ f ∈ fs, f.toList ≠ []) : ∀ (n : Nat) (l : Ex) (s : PS), Good T s -> szEx (chainLoop T pf fs n l s).1 + s.next <= szEx l + (chainLoop T pf fs n l s).2.next
 | 0, l, s, hg => by rw [chainLoop]; exact Nat.le_refl _
 | n + 1, l, s, hg => by
  rw [chainLoop]
  by_cases hz : seesAny T fs s = true
  ·rw [if_pos hz]
   have hga := any_good hT hne hg hz
   have h1 := hO _ hga
   have h2 := sz_chainLoop hO hM hne n (.bin (cur T s).text l (pf (adv s)).1) (pf (adv s)).2 (hM _ hga).1
   rw [szEx] at h2
   have e : (adv s).next = s.next + 1 := rfl
   omega
  ·rw [if_neg hz]; exact Nat.le_refl _
theorem sz_chain {pf : PS -> Ex × PS} (hO : SX T pf) (hM : Mon T pf) {fs : List ByteArray} (hne : ∀ f ∈ fs, f.toList ≠ []) : SX T (chain T pf fs) := fun s hg => by
 have h1 := hO s hg
 have h2 := sz_chainLoop hT hO hM hne T.length (pf s).1 (pf s).2 (hM s hg).1
 show szEx (chainLoop T pf fs T.length (pf s).1 (pf s).2).1 + s.next <= (chainLoop T pf fs T.length (pf s).1 (pf s).2).2.next
 omega
theorem sz_testP {pf : PS -> Ex × PS} (hO : SX T pf) (hM : Mon T pf) : SX T (testP T pf) := fun s hg => by
 unfold testP
 by_cases hz : seesAny T testOps (pf s).2 = true
 ·rw [if_pos hz]
  have hga := any_good hT ops_ne.2.2.1 (hM s hg).1 hz
  have h1 := hO s hg
  have h2 := hO _ hga
  have e : (adv (pf s).2).next = (pf s).2.next + 1 := rfl
  show szEx (.bin _ _ _) + s.next <= (pf (adv (pf s).2)).2.next
  rw [szEx]
  omega
 ·rw [if_neg hz]; exact hO s hg
theorem sz_exprOf {pf : PS -> Ex × PS} (hO : SX T pf) (hM : Mon T pf) : SX T (exprOf T pf) := by
 have a1 : SX T (termOf T pf) := sz_chain hT hO hM ops_ne.1
 have a2 : SX T (sumOf T pf) := sz_chain hT a1 (mon_termOf hT hM) ops_ne.2.1
 have a3 : SX T (testOf T pf) := sz_testP hT a2 (mon_sumOf hT hM)
 have a4 : SX T (andOf T pf) := sz_chain hT a3 (mon_testOf hT hM) ops_ne.2.2.2.1
 exact sz_chain hT a4 (mon_andOf hT hM) ops_ne.2.2.2.2
theorem sz_argsLoop {pf : PS -> Ex × PS} (hO : SX T pf) (hM : Mon T pf) : ∀ (n : Nat) (l : List Ex) (s : PS), Good T s -> szExs (argsLoop T pf n l s).1 + s.next <= szExs l + (argsLoop T pf n l s).2.next
 | 0, l, s, hg => by rw [argsLoop]; exact Nat.le_refl _
 | n + 1, l, s, hg => by
  rw [argsLoop]
  by_cases hz : sees T (bs [44]) s = true
  ·rw [if_pos hz]
   have hga := good_adv hT hg hz (bs_ne _ (by simp))
   have h1 := hO _ hga
   have h2 := sz_argsLoop hO hM n (l ++ [(pf (adv s)).1]) (pf (adv s)).2 (hM _ hga).1
   rw [szExs_append, szExs, szExs] at h2
   have e : (adv s).next = s.next + 1 := rfl
   omega
  ·rw [if_neg hz]; exact Nat.le_refl _
theorem sz_argsOf {pf : PS -> Ex × PS} (hO : SX T pf) (hM : Mon T pf) {s : PS} (hg : Good T s) : szExs (argsOf T pf s).1 + s.next <= (argsOf T pf s).2.next := by
 unfold argsOf
 by_cases hz : sees T (bs [41]) s = true
 ·rw [if_pos hz]; show szExs [] + s.next <= s.next + 1; rw [szExs]; omega
 ·rw [if_neg hz]
  have h1 := hO s hg
  have h2 := sz_argsLoop hT hO hM T.length [(pf s).1] (pf s).2 (hM s hg).1
  have h3 := mon_want hT (f := bs [41]) (bs_ne _ (by simp)) (mon_argsLoop hT hM T.length [(pf s).1] (pf s).2 (hM s hg).1).1
  rw [szExs, szExs] at h2
  show szExs (argsLoop T pf T.length [(pf s).1] (pf s).2).1 + s.next <= (want T (bs [41]) (argsLoop T pf T.length [(pf s).1] (pf s).2).2).next
  omega
theorem sz_indexOf {pf : PS -> Ex × PS} (hO : SX T pf) (hM : Mon T pf) : SX T (indexOf T pf) := fun s hg => by
 have h1 := hO s hg
 have h3 := mon_want hT (f := bs [93]) (bs_ne _ (by simp)) (hM s hg).1
 show szEx (pf s).1 + s.next <= (want T (bs [93]) (pf s).2).next
 omega
theorem sz_namedFactor {pf : PS -> Ex × PS} (hO : SX T pf) (hM : Mon T pf) {s : PS} (hg : Good T s) (hk : kindIs T .name s = true) : szEx (namedFactor T pf s).1 + s.next <= (namedFactor T pf s).2.next := by
 have en : (nameP T s).2 = adv s := by unfold nameP; rw [if_pos hk]
 have hga := good_adv_kind hT hg hk (by decide)
 have e : (adv s).next = s.next + 1 := rfl
 have e2 : (adv (adv s)).next = s.next + 2 := rfl
 unfold namedFactor
 rw [en]
 by_cases h1 : sees T (bs [40]) (adv s) = true
 ·rw [if_pos h1]
  have := sz_argsOf hT hO hM (good_adv hT hga h1 (bs_ne _ (by simp)))
  show szEx (.call _ _ _) + s.next <= (argsOf T pf (adv (adv s))).2.next
  rw [szEx]; omega
 ·rw [if_neg h1]
  by_cases h2 : sees T (bs [91]) (adv s) = true
  ·rw [if_pos h2]
   have := sz_indexOf hT hO hM _ (good_adv hT hga h2 (bs_ne _ (by simp)))
   show szEx (.elem _ _ _) + s.next <= (indexOf T pf (adv (adv s))).2.next
   rw [szEx]; omega
  ·rw [if_neg h2]
   show szEx (.var _ _) + s.next <= (adv s).next
   rw [szEx]; omega
theorem sz_factorD : ∀ k, SX T (factorD T k)
 | 0 => fun s hg => by rw [factorD]; have := le_fails 5 hg; show szEx .nil + s.next <= (fails T 5 s).next; rw [szEx]; omega
 | k + 1 => fun s hg => by
  have ih := sz_factorD k
  have hM := mon_factorD hT k
  have hX := sz_exprOf hT ih hM
  have e : (adv s).next = s.next + 1 := rfl
  rw [factorD]
  by_cases h1 : kindIs T .number s = true
  ·rw [if_pos h1]; unfold numP; rw [if_pos h1]; show szEx (.num _) + s.next <= (adv s).next; rw [szEx]; omega
  ·rw [if_neg h1]
   by_cases h2 : kindIs T .name s = true
   ·rw [if_pos h2]; exact sz_namedFactor hT hX (mon_exprOf hT hM) hg h2
   ·rw [if_neg h2]
    by_cases h3 : sees T (bs [40]) s = true
    ·rw [if_pos h3]
     have hga := good_adv hT hg h3 (bs_ne _ (by simp))
     have a := hX _ hga
     have b := mon_want hT (f := bs [41]) (bs_ne _ (by simp)) (mon_exprOf hT hM _ hga).1
     show szEx (exprOf T (factorD T k) (adv s)).1 + s.next <= (want T (bs [41]) (exprOf T (factorD T k) (adv s)).2).next
     omega
    ·rw [if_neg h3]
     by_cases h4 : sees T (bs [45]) s = true
     ·rw [if_pos h4]
      have := ih _ (good_adv hT hg h4 (bs_ne _ (by simp)))
      show szEx (.un _ _) + s.next <= (factorD T k (adv s)).2.next
      rw [szEx]; omega
     ·rw [if_neg h4]
      by_cases h5 : sees T (bs [110, 111, 116]) s = true
      ·rw [if_pos h5]
       have := ih _ (good_adv hT hg h5 (bs_ne _ (by simp)))
       show szEx (.un _ _) + s.next <= (factorD T k (adv s)).2.next
       rw [szEx]; omega
      ·rw [if_neg h5]; have := le_fails 4 hg; show szEx .nil + s.next <= (fails T 4 s).next; rw [szEx]; omega
theorem sz_exprD (k : Nat) : SX T (exprD T k) := sz_exprOf hT (sz_factorD hT k) (mon_factorD hT k)
theorem sz_namedSt {ex : PS -> Ex × PS} (hO : SX T ex) (hM : Mon T ex) {s : PS} (hg : Good T s) (hk : kindIs T .name s = true) : szSt (namedSt T ex s).1 + s.next <= (namedSt T ex s).2.next := by
 have en : (nameP T s).2 = adv s := by unfold nameP; rw [if_pos hk]
 have hga := good_adv_kind hT hg hk (by decide)
 have e : (adv s).next = s.next + 1 := rfl
 have e2 : (adv (adv s)).next = s.next + 2 := rfl
 unfold namedSt
 rw [en]
 by_cases h1 : sees T (bs [40]) (adv s) = true
 ·rw [if_pos h1]
  have := sz_argsOf hT hO hM (good_adv hT hga h1 (bs_ne _ (by simp)))
  show szSt (.proc _ _ _) + s.next <= (argsOf T ex (adv (adv s))).2.next
  rw [szSt]; omega
 ·rw [if_neg h1]
  by_cases h2 : sees T (bs [91]) (adv s) = true
  ·rw [if_pos h2]
   have hgaa := good_adv hT hga h2 (bs_ne _ (by simp))
   have a := sz_indexOf hT hO hM _ hgaa
   have b := mon_want hT (f := bs [58, 61]) (bs_ne _ (by simp)) (mon_indexOf hT hM _ hgaa).1
   have c := hO _ b.1
   show szSt (.put _ _ _ _) + s.next <= (ex (want T (bs [58, 61]) (indexOf T ex (adv (adv s))).2)).2.next
   rw [szSt]; omega
  ·rw [if_neg h2]
   have b := mon_want hT (f := bs [58, 61]) (bs_ne _ (by simp)) hga
   have c := hO _ b.1
   show szSt (.assign _ _ _) + s.next <= (ex (want T (bs [58, 61]) (adv s))).2.next
   rw [szSt]; omega
omit hT in
theorem sz_listOne {st : PS -> St × PS} (hO : SS T st) {s : PS} (hg : Good T s) : szSts (listOne T st s).1 + s.next <= (listOne T st s).2.next := by
 unfold listOne
 split
 ·show szSts [] + s.next <= s.next; rw [szSts]; omega
 ·have := hO s hg
  show szSts [_] + s.next <= (st s).2.next
  rw [szSts, szSts]; omega
theorem sz_listLoop {st : PS -> St × PS} (hO : SS T st) (hM : Mon T st) : ∀ (n : Nat) (l : List St) (s : PS), Good T s -> szSts (listLoop T st n l s).1 + s.next <= szSts l + (listLoop T st n l s).2.next
 | 0, l, s, hg => by rw [listLoop]; exact Nat.le_refl _
 | n + 1, l, s, hg => by
  have h1 := sz_listOne hO hg
  have m1 := mon_listOne hM s hg
  rw [listLoop]
  by_cases hz : sees T (bs [59]) (listOne T st s).2 = true
  ·rw [if_pos hz]
   have h2 := sz_listLoop hO hM n (l ++ (listOne T st s).1) _ (good_adv hT m1.1 hz (bs_ne _ (by simp)))
   rw [szSts_append] at h2
   have e : (adv (listOne T st s).2).next = (listOne T st s).2.next + 1 := rfl
   omega
  ·rw [if_neg hz]
   show szSts (l ++ (listOne T st s).1) + s.next <= szSts l + (listOne T st s).2.next
   rw [szSts_append]; omega
theorem sz_listOf {st : PS -> St × PS} (hO : SS T st) (hM : Mon T st) {s : PS} (hg : Good T s) : szSts (listOf T st s).1 + s.next <= (listOf T st s).2.next := by
 have := sz_listLoop hT hO hM T.length [] s hg
 rw [szSts] at this
 show szSts (listLoop T st T.length [] s).1 + s.next <= (listLoop T st T.length [] s).2.next
 omega
theorem sz_stmtD : ∀ k, SS T (stmtD T k)
 | 0 => fun s hg => by rw [stmtD]; have := le_fails 5 hg; show szSt .nil + s.next <= (fails T 5 s).next; rw [szSt]; omega
 | k + 1 => fun s hg => by
  have ih := sz_stmtD k
  have hMS := mon_stmtD hT k
  have hO := sz_exprD hT k
  have hM := mon_exprD hT k
  have e : (adv s).next = s.next + 1 := rfl
  rw [stmtD]
  by_cases h1 : kindIs T .name s = true
  ·rw [if_pos h1]; exact sz_namedSt hT hO hM hg h1
  ·rw [if_neg h1]
   by_cases h2 : sees T (bs [105, 102]) s = true
   ·rw [if_pos h2]
    have hga := good_adv hT hg h2 (bs_ne _ (by simp))
    have a := hO _ hga
    have m2 := mon_want hT (f := bs [116, 104, 101, 110]) (bs_ne _ (by simp)) (hM _ hga).1
    have b := ih _ m2.1
    unfold choiceSt
    by_cases hz : sees T (bs [101, 108, 115, 101]) (stmtD T k (want T (bs [116, 104, 101, 110]) (exprD T k (adv s)).2)).2 = true
    ·rw [if_pos hz]
     have c := ih _ (good_adv hT (hMS _ m2.1).1 hz (bs_ne _ (by simp)))
     have e3 : (adv (stmtD T k (want T (bs [116, 104, 101, 110]) (exprD T k (adv s)).2)).2).next = (stmtD T k (want T (bs [116, 104, 101, 110]) (exprD T k (adv s)).2)).2.next + 1 := rfl
     show szSt (.ite _ _ _) + s.next <= (stmtD T k (adv (stmtD T k (want T (bs [116, 104, 101, 110]) (exprD T k (adv s)).2)).2)).2.next
     rw [szSt]; omega
    ·rw [if_neg hz]
     show szSt (.ite _ _ .nil) + s.next <= (stmtD T k (want T (bs [116, 104, 101, 110]) (exprD T k (adv s)).2)).2.next
     rw [szSt, szSt]; omega
   ·rw [if_neg h2]
    by_cases h3 : sees T (bs [119, 104, 105, 108, 101]) s = true
    ·rw [if_pos h3]
     have hga := good_adv hT hg h3 (bs_ne _ (by simp))
     have a := hO _ hga
     have m2 := mon_want hT (f := bs [100, 111]) (bs_ne _ (by simp)) (hM _ hga).1
     have b := ih _ m2.1
     show szSt (.loop _ _) + s.next <= (stmtD T k (want T (bs [100, 111]) (exprD T k (adv s)).2)).2.next
     rw [szSt]; omega
    ·rw [if_neg h3]
     by_cases h4 : sees T (bs [98, 101, 103, 105, 110]) s = true
     ·rw [if_pos h4]
      have hga := good_adv hT hg h4 (bs_ne _ (by simp))
      have a := sz_listOf hT ih hMS hga
      have b := mon_want hT (f := bs [101, 110, 100]) (bs_ne _ (by simp)) (mon_listOf hT hMS _ hga).1
      show szSt (.block _) + s.next <= (want T (bs [101, 110, 100]) (listOf T (stmtD T k) (adv s)).2).next
      rw [szSt]; omega
     ·rw [if_neg h4]
      by_cases h5 : sees T (bs [119, 114, 105, 116, 101]) s = true
      ·rw [if_pos h5]
       have a := hO _ (good_adv hT hg h5 (bs_ne _ (by simp)))
       show szSt (.write _) + s.next <= (exprD T k (adv s)).2.next
       rw [szSt]; omega
      ·rw [if_neg h5]
       by_cases h6 : sees T (bs [114, 101, 97, 100]) s = true
       ·rw [if_pos h6]
        have a := mon_nameP hT _ (good_adv hT hg h6 (bs_ne _ (by simp)))
        show szSt (.read _ _) + s.next <= (nameP T (adv s)).2.next
        rw [szSt]; omega
       ·rw [if_neg h6]; have := le_fails 4 hg; show szSt .nil + s.next <= (fails T 4 s).next; rw [szSt]; omega
theorem sz_bodyP {s : PS} (hg : Good T s) : szSts (bodyP T s).1 + s.next <= (bodyP T s).2.next := by
 have m1 := mon_want hT (f := bs [98, 101, 103, 105, 110]) (bs_ne _ (by simp)) hg
 have a := sz_listOf hT (sz_stmtD hT 14) (mon_stmtD hT 14) m1.1
 have b := mon_want hT (f := bs [101, 110, 100]) (bs_ne _ (by simp)) (mon_listOf hT (mon_stmtD hT 14) _ m1.1).1
 show szSts (listOf T (stmtD T 14) (want T (bs [98, 101, 103, 105, 110]) s)).1 + s.next <= (want T (bs [101, 110, 100]) (listOf T (stmtD T 14) (want T (bs [98, 101, 103, 105, 110]) s)).2).next
 omega
omit hT in
theorem sz_itemP (s : PS) : szGl (itemP T s).1 = 0 := by unfold itemP; split <;> rfl
omit hT in
theorem sz_itemsLoop : ∀ (n : Nat) (l : List Gl) (s : PS), szGls (itemsLoop T n l s).1 = szGls l
 | 0, l, s => by rw [itemsLoop]
 | n + 1, l, s => by
  rw [itemsLoop]
  split
  ·rw [sz_itemsLoop n, szGls_append, szGls, szGls, sz_itemP]; omega
  ·rfl
omit hT in
theorem sz_itemsP (s : PS) : szGls (itemsP T s).1 = 0 := by
 show szGls (itemsLoop T T.length [(itemP T s).1] (itemP T s).2).1 = 0
 rw [sz_itemsLoop, szGls, szGls, sz_itemP]
theorem sz_routineP {s : PS} (hg : Good T s) : szSts (routineP T s).1.body + s.next <= (routineP T s).2.next := by
 have m1 := mon_routineLocals hT s hg
 have a := sz_bodyP hT m1.1
 have b := mon_want hT (f := bs [59]) (bs_ne _ (by simp)) (mon_bodyP hT _ m1.1).1
 show szSts (bodyP T (routineLocals T s).2).1 + s.next <= (want T (bs [59]) (bodyP T (routineLocals T s).2).2).next
 omega
theorem sz_globalsLoop : ∀ (n : Nat) (l : List Gl) (s : PS), Good T s -> szGls (globalsLoop T n l s).1 + s.next <= szGls l + (globalsLoop T n l s).2.next
 | 0, l, s, hg => by rw [globalsLoop]; exact Nat.le_refl _
 | n + 1, l, s, hg => by
  have e : (adv s).next = s.next + 1 := rfl
  rw [globalsLoop]
  by_cases h1 : sees T (bs [118, 97, 114]) s = true
  ·rw [if_pos h1]
   have hga := good_adv hT hg h1 (bs_ne _ (by simp))
   have m := mon_itemsP hT _ hga
   have ih := sz_globalsLoop n (l ++ (itemsP T (adv s)).1) _ m.1
   rw [szGls_append, sz_itemsP] at ih
   omega
  ·rw [if_neg h1]
   by_cases h2 : sees T (bs [112, 114, 111, 99]) s = true
   ·rw [if_pos h2]
    have hga := good_adv hT hg h2 (bs_ne _ (by simp))
    have m := mon_routineP hT _ hga
    have a := sz_routineP hT hga
    have ih := sz_globalsLoop n (l ++ [.proc (routineP T (adv s)).1]) _ m.1
    rw [szGls_append, szGls, szGls, szGl] at ih
    omega
   ·rw [if_neg h2]
    by_cases h3 : sees T (bs [102, 117, 110, 99]) s = true
    ·rw [if_pos h3]
     have hga := good_adv hT hg h3 (bs_ne _ (by simp))
     have m := mon_routineP hT _ hga
     have a := sz_routineP hT hga
     have ih := sz_globalsLoop n (l ++ [.func (routineP T (adv s)).1]) _ m.1
     rw [szGls_append, szGls, szGls, szGl] at ih
     omega
    ·rw [if_neg h3]; exact Nat.le_refl _
theorem sz_program {s : PS} (hg : Good T s) : (cPr (programP T s).1).1.length <= 8 * T.length + 1 := by
 have m := mon_globalsP hT s hg
 have a := sz_globalsLoop hT T.length [] s hg
 have b := sz_bodyP hT m.1
 have c := (mon_bodyP hT _ m.1).1
 have d := cPr_sz (programP T s).1
 rw [szGls] at a
 have a' : szGls (globalsP T s).1 + s.next <= 0 + (globalsP T s).2.next := a
 unfold Good at c
 have e1 : (programP T s).1.globals = (globalsP T s).1 := rfl
 have e2 : (programP T s).1.body = (bodyP T (globalsP T s).2).1 := rfl
 rw [e1, e2] at d
 omega
end
end Go.Proofs.YtklobognaldjpaaGreat
