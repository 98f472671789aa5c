/- Plain: nothing is missing in a tree that was read; its numbers are values. Plain: nothing is missing in a program that was read. -/
import Derived.Test.YtklobognaldjpaaGreatCOk2
import Derived.Test.YtklobognaldjpaaGreatCRun2
namespace Go.Proofs.YtklobognaldjpaaGreat
mutual
def WhEx : Ex -> Prop
 | .nil => False
 | .num v => v <= 2147483647
 | .var n _ => NmOk n
 | .elem n _ i => NmOk n /\ WhEx i
 | .call n _ args => NmOk n /\ args.length <= 602 /\ WhExs args
 | .bin _ l r => WhEx l /\ WhEx r
 | .un _ e => WhEx e
def WhExs : List Ex -> Prop
 | [] => True
 | e :: l => WhEx e /\ WhExs l
end
mutual
def WhSt : St -> Prop
 | .nil => False
 | .assign n _ e => NmOk n /\ WhEx e
 | .put n _ i e => NmOk n /\ WhEx i /\ WhEx e
 | .proc n _ args => NmOk n /\ args.length <= 602 /\ WhExs args
 | .ite c t f => WhEx c /\ WhSt t /\ (f.isNil = true ∨ WhSt f)
 | .loop c b => WhEx c /\ WhSt b
 | .block l => l.length <= 602 /\ WhSts l
 | .write e => WhEx e
 | .read n _ => NmOk n
def WhSts : List St -> Prop
 | [] => True
 | e :: l => WhSt e /\ WhSts l
end
structure WhRo (r : Ro) : Prop where
 name : NmOk r.name.1
 params : OkNames r.params
 locals : OkNames r.locals
 body : r.body.length <= 602 /\ WhSts r.body
def WhGl : Gl -> Prop
 | .var n _ => NmOk n
 | .arr n _ _ _ => NmOk n
 | .proc r => WhRo r
 | .func r => WhRo r
theorem whExs_snoc {e : Ex} (he : WhEx e) : ∀ {l : List Ex}, WhExs l -> WhExs (l ++ [e])
 | [], _ => by simp only [List.nil_append, WhExs]; exact ⟨he, trivial⟩
 | a :: l, h => by
  rw [WhExs] at h
  show WhExs (a :: (l ++ [e]))
  rw [WhExs]; exact ⟨h.1, whExs_snoc he h.2⟩
theorem whSts_append {k : List St} (hk : WhSts k) : ∀ {l : List St}, WhSts l -> WhSts (l ++ k)
 | [], _ => hk
 | a :: l, h => by
  rw [WhSts] at h
  show WhSts (a :: (l ++ k))
  rw [WhSts]; exact ⟨h.1, whSts_append hk h.2⟩
def NW (T : List Tok) : Prop := NT T /\ ∀ t ∈ T, t.kind = .number -> t.val <= 2147483647
def WX (T : List Tok) (f : PS -> Ex × PS) : Prop := ∀ s, Good T s -> Stk T s -> (f s).2.code = 0 -> WhEx (f s).1
def WS (T : List Tok) (f : PS -> St × PS) : Prop := ∀ s, Good T s -> Stk T s -> (f s).2.code = 0 -> WhSt (f s).1
section
variable {T : List Tok}
theorem wh_cur (hN : NW T) {s : PS} (hg : Good T s) (hk : kindIs T .name s = true) : NmOk (cur T s).text := hN.1.2 _ (cur_in hg) (by simpa [kindIs] using hk)
theorem wh_nameP (hN : NW T) {s : PS} (hg : Good T s) (h : (nameP T s).2.code = 0) : NmOk (nameP T s).1.1 := by
 obtain ⟨_, hk, e⟩ := name_live h
 rw [e]; exact wh_cur hN hg hk
variable (hT : Toks T)
include hT
theorem wh_chainLoop {pf : PS -> Ex × PS} (hO : WX T pf) (hM : Mon T pf) (hS : SM T pf) {fs : List ByteArray} (hne : ∀ f ∈ fs, f.toList ≠ []) : ∀ (n : Nat) (l : Ex) (s : PS), WhEx l -> Good T s -> Stk T s -> (chainLoop T pf fs n l s).2.code = 0 -> WhEx (chainLoop T pf fs n l s).1
 | 0, l, s, hl, hg, hs, h => hl
 | n + 1, l, s, hl, hg, hs, h => by
  rw [chainLoop] at h ⊢
  by_cases hz : seesAny T fs s = true
  ·rw [if_pos hz] at h ⊢
   have hc := code_of_any hT hs hne hz
   have hsa : Stk T (adv s) := stk_adv hc
   have hga := any_good hT hne hg hz
   have h1 := hS _ hsa
   refine wh_chainLoop hO hM hS hne n _ _ ?_ (hM _ hga).1 h1.1 h
   rw [WhEx]
   exact ⟨hl, hO _ hga hsa (chainLoop_code hT hS hne h1.1 h)⟩
  ·rw [if_neg hz]; exact hl
theorem wh_chain {pf : PS -> Ex × PS} (hO : WX T pf) (hM : Mon T pf) (hS : SM T pf) {fs : List ByteArray} (hne : ∀ f ∈ fs, f.toList ≠ []) : WX T (chain T pf fs) := fun s hg hs h => by
 have h1 := hS s hs
 have h' : (chainLoop T pf fs T.length (pf s).1 (pf s).2).2.code = 0 := h
 exact wh_chainLoop hT hO hM hS hne _ _ _ (hO s hg hs (chainLoop_code hT hS hne h1.1 h')) (hM s hg).1 h1.1 h'
theorem wh_testP {pf : PS -> Ex × PS} (hO : WX T pf) (hM : Mon T pf) (hS : SM T pf) : WX T (testP T pf) := fun s hg hs h => by
 unfold testP at h ⊢
 by_cases hz : seesAny T testOps (pf s).2 = true
 ·rw [if_pos hz] at h ⊢
  have h1 := hS s hs
  have hc := code_of_any hT h1.1 ops_ne.2.2.1 hz
  have hga := any_good hT ops_ne.2.2.1 (hM s hg).1 hz
  show WhEx (.bin _ _ _)
  rw [WhEx]
  exact ⟨hO s hg hs hc, hO _ hga (stk_adv hc) h⟩
 ·rw [if_neg hz] at h ⊢; exact hO s hg hs h
theorem wh_exprOf {pf : PS -> Ex × PS} (hO : WX T pf) (hM : Mon T pf) (hS : SM T pf) : WX T (exprOf T pf) := by
 have a1 : WX T (termOf T pf) := wh_chain hT hO hM hS ops_ne.1
 have a2 : WX T (sumOf T pf) := wh_chain hT a1 (mon_termOf hT hM) (sm_termOf hT hS) ops_ne.2.1
 have a3 : WX T (testOf T pf) := wh_testP hT a2 (mon_sumOf hT hM) (sm_sumOf hT hS)
 have a4 : WX T (andOf T pf) := wh_chain hT a3 (mon_testOf hT hM) (sm_testOf hT hS) ops_ne.2.2.2.1
 exact wh_chain hT a4 (mon_andOf hT hM) (sm_andOf hT hS) ops_ne.2.2.2.2
theorem wh_argsLoop {pf : PS -> Ex × PS} (hO : WX T pf) (hM : Mon T pf) (hS : SM T pf) : ∀ (n : Nat) (l : List Ex) (s : PS), WhExs l -> Good T s -> Stk T s -> (argsLoop T pf n l s).2.code = 0 -> WhExs (argsLoop T pf n l s).1
 | 0, l, s, hl, hg, hs, h => hl
 | n + 1, l, s, hl, hg, hs, h => by
  rw [argsLoop] at h ⊢
  by_cases hz : sees T (bs [44]) s = true
  ·rw [if_pos hz] at h ⊢
   have hc := code_of_sees hT hs (bs_ne _ (by simp)) hz
   have hsa : Stk T (adv s) := stk_adv hc
   have hga := good_adv hT hg hz (bs_ne _ (by simp))
   have h1 := hS _ hsa
   exact wh_argsLoop hO hM hS n _ _ (whExs_snoc (hO _ hga hsa (argsLoop_code hT hS h1.1 h)) hl) (hM _ hga).1 h1.1 h
  ·rw [if_neg hz]; exact hl
omit hT in
theorem whArgs_len (pf : PS -> Ex × PS) : ∀ (n : Nat) (l : List Ex) (s : PS), (argsLoop T pf n l s).1.length <= l.length + n
 | 0, l, s => Nat.le_refl _
 | n + 1, l, s => by
  rw [argsLoop]
  split
  ·have := whArgs_len pf n (l ++ [(pf (adv s)).1]) (pf (adv s)).2
   rw [List.length_append] at this
   simp only [List.length_cons, List.length_nil] at this
   omega
  ·show l.length <= _; omega
theorem wh_argsOf (hN : NW T) {pf : PS -> Ex × PS} (hO : WX T pf) (hM : Mon T pf) (hS : SM T pf) {s : PS} (hg : Good T s) (hs : Stk T s) (h : (argsOf T pf s).2.code = 0) : (argsOf T pf s).1.length <= 602 /\ WhExs (argsOf T pf s).1 := by
 unfold argsOf at h ⊢
 by_cases hz : sees T (bs [41]) s = true
 ·rw [if_pos hz]; show _ /\ WhExs []; rw [WhExs]; exact ⟨by simp, trivial⟩
 ·rw [if_neg hz] at h ⊢
  have h1 := hS s hs
  have h' : (want T (bs [41]) (argsLoop T pf T.length [(pf s).1] (pf s).2).2).code = 0 := h
  have c1 := (want_ok h').1
  refine ⟨?_, wh_argsLoop hT hO hM hS _ _ _ ?_ (hM s hg).1 h1.1 c1⟩
  ·show (argsLoop T pf T.length [(pf s).1] (pf s).2).1.length <= 602
   have := whArgs_len (T := T) pf T.length [(pf s).1] (pf s).2
   have h0 := hN.1.1
   simp only [List.length_cons, List.length_nil] at this
   omega
  rw [WhExs, WhExs]
  exact ⟨hO s hg hs (argsLoop_code hT hS h1.1 c1), trivial⟩
theorem wh_named (hN : NW T) {pf : PS -> Ex × PS} (hO : WX T pf) (hM : Mon T pf) (hS : SM T pf) {s : PS} (hg : Good T s) (hc : s.code = 0) (hk : kindIs T .name s = true) (h : (namedFactorN T none pf s).2.code = 0) : WhEx (namedFactorN T none pf s).1 := by
 have hn := wh_cur hN hg hk
 have hga := good_adv_kind hT hg hk (by decide)
 have haa : Stk T (adv (adv s)) := fun h => absurd hc h
 unfold namedFactorN at h ⊢
 by_cases h1 : sees T (bs [40]) (adv s) = true
 ·rw [if_pos h1] at h ⊢
  show WhEx (.call _ _ _)
  rw [WhEx]
  exact ⟨hn, wh_argsOf hT hN hO hM hS (good_adv hT hga h1 (bs_ne _ (by simp))) haa h⟩
 ·rw [if_neg h1] at h ⊢
  by_cases h2 : sees T (bs [91]) (adv s) = true
  ·rw [if_pos h2] at h ⊢
   show WhEx (.elem _ _ _)
   rw [WhEx]
   exact ⟨hn, hO _ (good_adv hT hga h2 (bs_ne _ (by simp))) haa (want_ok h).1⟩
  ·rw [if_neg h2]
   show WhEx (.var _ _)
   rw [WhEx]; exact hn
theorem wh_factorN (hN : NW T) : ∀ k, WX T (factorN T none k)
 | 0 => fun s hg hs h => (fails_live (by decide) h).elim
 | k + 1 => fun s hg hs h => by
  have ih := wh_factorN hN k
  have hM := mon_factorN hT none k
  have hS := sm_factorN hT none k
  have hX := wh_exprOf hT ih hM hS
  have hc := sm_code (sm_factorN hT none (k + 1)) hs h
  have hsa : Stk T (adv s) := stk_adv hc
  rw [factorN] at h ⊢
  by_cases h1 : kindIs T .number s = true
  ·rw [if_pos h1]; show WhEx (.num _); rw [WhEx]; unfold numP; rw [if_pos h1]; exact hN.2 _ (cur_in hg) (by simpa [kindIs] using h1)
  ·rw [if_neg h1] at h ⊢
   by_cases h2 : kindIs T .name s = true
   ·rw [if_pos h2] at h ⊢; exact wh_named hT hN hX (mon_exprOf hT hM) (sm_exprOf hT hS) hg hc h2 h
   ·rw [if_neg h2] at h ⊢
    by_cases h3 : sees T (bs [40]) s = true
    ·rw [if_pos h3] at h ⊢
     exact hX _ (good_adv hT hg h3 (bs_ne _ (by simp))) hsa (want_ok h).1
    ·rw [if_neg h3] at h ⊢
     by_cases h4 : sees T (bs [45]) s = true
     ·rw [if_pos h4] at h ⊢; show WhEx (.un _ _); rw [WhEx]; exact ih _ (good_adv hT hg h4 (bs_ne _ (by simp))) hsa h
     ·rw [if_neg h4] at h ⊢
      by_cases h5 : sees T (bs [110, 111, 116]) s = true
      ·rw [if_pos h5] at h ⊢; show WhEx (.un _ _); rw [WhEx]; exact ih _ (good_adv hT hg h5 (bs_ne _ (by simp))) hsa h
      ·rw [if_neg h5] at h; exact (fails_live (by decide) h).elim
theorem wh_exprN (hN : NW T) (k : Nat) : WX T (exprN T none k) := wh_exprOf hT (wh_factorN hT hN k) (mon_factorN hT none k) (sm_factorN hT none k)
theorem wh_namedSt (hN : NW T) {ex : PS -> Ex × PS} (hO : WX T ex) (hM : Mon T ex) (hS : SM T ex) {s : PS} (hg : Good T s) (hc : s.code = 0) (hk : kindIs T .name s = true) (h : (namedStN T none ex s).2.code = 0) : WhSt (namedStN T none ex s).1 := by
 have hn := wh_cur hN hg hk
 have hga := good_adv_kind hT hg hk (by decide)
 have haa : Stk T (adv (adv s)) := fun h => absurd hc h
 unfold namedStN at h ⊢
 by_cases h1 : sees T (bs [40]) (adv s) = true
 ·rw [if_pos h1] at h ⊢
  show WhSt (.proc _ _ _)
  rw [WhSt]
  exact ⟨hn, wh_argsOf hT hN hO hM hS (good_adv hT hga h1 (bs_ne _ (by simp))) haa h⟩
 ·rw [if_neg h1] at h ⊢
  by_cases h2 : sees T (bs [91]) (adv s) = true
  ·rw [if_pos h2] at h ⊢
   have hgaa := good_adv hT hga h2 (bs_ne _ (by simp))
   have hi := (sm_indexOf hT hS _ haa).1
   have hw := (sm_want hT (f := bs [58, 61]) (bs_ne _ (by simp)) hi).1
   have c1 := sm_code hS hw h
   have c2 := (want_ok c1).1
   have hgi := (mon_indexOf hT hM _ hgaa).1
   have hgw := (mon_want hT (f := bs [58, 61]) (bs_ne _ (by simp)) hgi).1
   show WhSt (.put _ _ _ _)
   rw [WhSt]
   exact ⟨hn, hO _ hgaa haa (want_ok c2).1, hO _ hgw hw h⟩
  ·rw [if_neg h2] at h ⊢
   by_cases h3 : sees T (bs [58, 61]) (adv s) = true
   ·rw [if_pos h3] at h ⊢
    show WhSt (.assign _ _ _)
    rw [WhSt]
    exact ⟨hn, hO _ (good_adv hT hga h3 (bs_ne _ (by simp))) haa h⟩
   ·rw [if_neg h3] at h
    exact (fails_live (by decide) (sm_code hS (stk_fails 4 (adv s)) h)).elim
theorem wh_listLoop {st : PS -> St × PS} (hO : WS T st) (hM : Mon T st) (hS : SM T st) : ∀ (n : Nat) (l : List St) (s : PS), WhSts l -> Good T s -> Stk T s -> (listLoop T st n l s).2.code = 0 -> WhSts (listLoop T st n l s).1
 | 0, l, s, hl, hg, hs, h => hl
 | n + 1, l, s, hl, hg, hs, h => by
  have one : (listOne T st s).2.code = 0 -> WhSts (listOne T st s).1 := fun h1 => by
   unfold listOne at h1 ⊢
   split at h1
   ·rename_i hz; rw [if_pos hz]; show WhSts []; rw [WhSts]; trivial
   ·rename_i hz; rw [if_neg hz]; show WhSts [_]; rw [WhSts, WhSts]; exact ⟨hO s hg hs h1, trivial⟩
  rw [listLoop_one] at h ⊢
  have s1 := sm_listOne hS s hs
  have m1 := mon_listOne hM s hg
  by_cases hz : sees T (bs [59]) (listOne T st s).2 = true
  ·rw [if_pos hz] at h ⊢
   have c1 := code_of_sees hT s1.1 (bs_ne _ (by simp)) hz
   exact wh_listLoop hO hM hS n _ _ (whSts_append (one c1) hl) (good_adv hT m1.1 hz (bs_ne _ (by simp))) (stk_adv c1) h
  ·rw [if_neg hz] at h ⊢
   exact whSts_append (one h) hl
omit hT in
theorem whList_len (st : PS -> St × PS) : ∀ (n : Nat) (l : List St) (s : PS), (listLoop T st n l s).1.length <= l.length + n
 | 0, l, s => Nat.le_refl _
 | n + 1, l, s => by
  have one : (listOne T st s).1.length <= 1 := by unfold listOne; split <;> simp
  rw [listLoop]
  split
  ·have := whList_len st n (l ++ (listOne T st s).1) (adv (listOne T st s).2)
   rw [List.length_append] at this
   omega
  ·show (l ++ (listOne T st s).1).length <= _; rw [List.length_append]; omega
theorem wh_listOf (hN : NW T) {st : PS -> St × PS} (hO : WS T st) (hM : Mon T st) (hS : SM T st) {s : PS} (hg : Good T s) (hs : Stk T s) (h : (listOf T st s).2.code = 0) : (listOf T st s).1.length <= 602 /\ WhSts (listOf T st s).1 :=
 ⟨by have := whList_len (T := T) st T.length [] s; have h0 := hN.1.1; simp only [List.length_nil] at this; show (listLoop T st T.length [] s).1.length <= 602; omega, wh_listLoop hT hO hM hS T.length [] s (by rw [WhSts]; trivial) hg hs h⟩
theorem wh_stmtN (hN : NW T) : ∀ k, WS T (stmtN T none k)
 | 0 => fun s hg hs h => (fails_live (by decide) h).elim
 | k + 1 => fun s hg hs h => by
  have ih := wh_stmtN hN k
  have hMS := mon_stmtN hT none k
  have hSS := sm_stmtN hT none k
  have hO := wh_exprN hT hN k
  have hM := mon_exprN hT none k
  have hS := sm_exprN hT none k
  have hc := sm_code (sm_stmtN hT none (k + 1)) hs h
  have hsa : Stk T (adv s) := stk_adv hc
  rw [stmtN] at h ⊢
  by_cases h1 : kindIs T .name s = true
  ·rw [if_pos h1] at h ⊢; exact wh_namedSt hT hN hO hM hS hg hc h1 h
  ·rw [if_neg h1] at h ⊢
   by_cases h2 : sees T (bs [105, 102]) s = true
   ·rw [if_pos h2] at h ⊢
    have hga := good_adv hT hg h2 (bs_ne _ (by simp))
    have m1 := hM _ hga
    have s1 := hS _ hsa
    have m2 := mon_want hT (f := bs [116, 104, 101, 110]) (bs_ne _ (by simp)) m1.1
    have s2 := sm_want hT (f := bs [116, 104, 101, 110]) (bs_ne _ (by simp)) s1.1
    have m3 := hMS _ m2.1
    have s3 := hSS _ s2.1
    have key : (stmtN T none k (want T (bs [116, 104, 101, 110]) (exprN T none k (adv s)).2)).2.code = 0 -> WhEx (exprN T none k (adv s)).1 /\ WhSt (stmtN T none k (want T (bs [116, 104, 101, 110]) (exprN T none k (adv s)).2)).1 := fun c3 => by
     have c2 := sm_code hSS s2.1 c3
     exact ⟨hO _ hga hsa (want_ok c2).1, ih _ m2.1 s2.1 c3⟩
    unfold choiceSt at h ⊢
    by_cases hz : sees T (bs [101, 108, 115, 101]) (stmtN T none k (want T (bs [116, 104, 101, 110]) (exprN T none k (adv s)).2)).2 = true
    ·rw [if_pos hz] at h ⊢
     have c3 := code_of_sees hT s3.1 (bs_ne _ (by simp)) hz
     obtain ⟨o1, o2⟩ := key c3
     show WhSt (.ite _ _ _)
     rw [WhSt]
     exact ⟨o1, o2, .inr (ih _ (good_adv hT m3.1 hz (bs_ne _ (by simp))) (stk_adv c3) h)⟩
    ·rw [if_neg hz] at h ⊢
     obtain ⟨o1, o2⟩ := key h
     show WhSt (.ite _ _ .nil)
     rw [WhSt]
     exact ⟨o1, o2, .inl rfl⟩
   ·rw [if_neg h2] at h ⊢
    by_cases h3 : sees T (bs [119, 104, 105, 108, 101]) s = true
    ·rw [if_pos h3] at h ⊢
     have hga := good_adv hT hg h3 (bs_ne _ (by simp))
     have m1 := hM _ hga
     have s1 := hS _ hsa
     have m2 := mon_want hT (f := bs [100, 111]) (bs_ne _ (by simp)) m1.1
     have s2 := sm_want hT (f := bs [100, 111]) (bs_ne _ (by simp)) s1.1
     have c2 := sm_code hSS s2.1 h
     show WhSt (.loop _ _)
     rw [WhSt]
     exact ⟨hO _ hga hsa (want_ok c2).1, ih _ m2.1 s2.1 h⟩
    ·rw [if_neg h3] at h ⊢
     by_cases h4 : sees T (bs [98, 101, 103, 105, 110]) s = true
     ·rw [if_pos h4] at h ⊢
      show WhSt (.block _)
      rw [WhSt]
      exact wh_listOf hT hN ih hMS hSS (good_adv hT hg h4 (bs_ne _ (by simp))) hsa (want_ok h).1
     ·rw [if_neg h4] at h ⊢
      by_cases h5 : sees T (bs [119, 114, 105, 116, 101]) s = true
      ·rw [if_pos h5] at h ⊢
       show WhSt (.write _)
       rw [WhSt]
       exact hO _ (good_adv hT hg h5 (bs_ne _ (by simp))) hsa h
      ·rw [if_neg h5] at h ⊢
       by_cases h6 : sees T (bs [114, 101, 97, 100]) s = true
       ·rw [if_pos h6] at h ⊢
        have hga := good_adv hT hg h6 (bs_ne _ (by simp))
        have h7 : (readN T none (adv s)).code = 0 := h
        show WhSt (.read _ _)
        rw [WhSt]
        unfold readN at h7
        split at h7
        ·rename_i hk; rw [nameP_kind hk]; exact wh_cur hN hga hk
        ·exact (fails_live (by decide) h7).elim
       ·rw [if_neg h6] at h; exact (fails_live (by decide) h).elim
theorem wh_body (hN : NW T) {s : PS} (hg : Good T s) (hs : Stk T s) (h : (listOf T (stmtN T none 14) s).2.code = 0) : (listOf T (stmtN T none 14) s).1.length <= 602 /\ WhSts (listOf T (stmtN T none 14) s).1 :=
 wh_listOf hT hN (wh_stmtN hT hN 14) (mon_stmtN hT none 14) (sm_stmtN hT none 14) hg hs h
end
def GlWh (T : List Tok) (g : Gl) : Prop := WhGl g /\ BdGl T g
structure PrWh (T : List Tok) (p : Pr) : Prop where
 globals : ∀ g ∈ p.globals, GlWh T g
 len : p.globals.length <= T.length
 body : p.body.length <= 602 /\ WhSts p.body
section
variable {T : List Tok} (hT : Toks T) (hN : NW T)
include hT hN
omit hT in
theorem wh_itemP {s : PS} (hg : Good T s) (h : (itemP T s).2.code = 0) : GlWh T (itemP T s).1 := by
 unfold itemP at h ⊢
 by_cases hb : sees T (bs [91]) (nameP T s).2 = true
 ·rw [if_pos hb] at h ⊢
  have c1 := (want_ok h).1
  have c2 := (num_live c1).1
  exact ⟨wh_nameP hN hg (show (nameP T s).2.code = 0 from c2), trivial⟩
 ·rw [if_neg hb] at h ⊢
  exact ⟨wh_nameP hN hg h, trivial⟩
omit hN in
theorem whItem_next {s : PS} (hg : Good T s) (hs : Stk T s) (h : (itemP T s).2.code = 0) : s.next + 1 <= (itemP T s).2.next := by
 have h1 := go2_nameP hT hg hs
 unfold itemP at h ⊢
 by_cases hb : sees T (bs [91]) (nameP T s).2 = true
 ·rw [if_pos hb] at h ⊢
  have h2 := go2_adv hT (bs_ne _ (by simp)) h1.good h1.stk hb
  have h3 := go2_numP hT h2.good h2.stk
  have h4 := go2_want hT (f := bs [93]) (bs_ne _ (by simp)) h3.good h3.stk
  have c1 := (want_ok h).1
  have c2 := (num_live c1).1
  have hn := name_next hT (show (nameP T s).2.code = 0 from c2) hs
  show s.next + 1 <= (want T (bs [93]) (numP T (adv (nameP T s).2)).2).next
  have := h2.le; have := h3.le; have := h4.le
  omega
 ·rw [if_neg hb] at h ⊢
  show s.next + 1 <= (nameP T s).2.next
  rw [name_next hT h hs]; exact Nat.le_refl _
theorem wh_itemsLoop : ∀ (n : Nat) (acc : List Gl) (s : PS), (∀ g ∈ acc, GlWh T g) -> Good T s -> s.code = 0 -> (itemsLoop T n acc s).2.code = 0 -> (∀ g ∈ (itemsLoop T n acc s).1, GlWh T g) /\ (itemsLoop T n acc s).1.length + s.next <= acc.length + (itemsLoop T n acc s).2.next
 | 0, acc, s, ha, hg, hc, h => ⟨ha, Nat.le_refl _⟩
 | n + 1, acc, s, ha, hg, hc, h => by
  rw [itemsLoop] at h ⊢
  by_cases hs : sees T (bs [44]) s = true
  ·rw [if_pos hs] at h ⊢
   have hga := good_adv hT hg hs (bs_ne _ (by simp))
   have hsa : Stk T (adv s) := stk_adv hc
   have hI := go2_itemP hT hga hsa
   have c1 := itemsLoop_code hT hI.good hI.stk h
   have ih := wh_itemsLoop n (acc ++ [(itemP T (adv s)).1]) (itemP T (adv s)).2 (fun g hgm => by
    rcases List.mem_append.1 hgm with h1 | h1
    ·exact ha g h1
    ·simp at h1; subst h1; exact wh_itemP hN hga c1) hI.good c1 h
   have hn := whItem_next hT hga hsa c1
   have e : (adv s).next = s.next + 1 := rfl
   refine ⟨ih.1, ?_⟩
   have := ih.2
   rw [List.length_append] at this
   simp only [List.length_cons, List.length_nil] at this
   omega
  ·rw [if_neg hs]; exact ⟨ha, Nat.le_refl _⟩
theorem wh_itemsP {s : PS} (hg : Good T s) (hs : Stk T s) (h : (itemsP T s).2.code = 0) : (∀ g ∈ (itemsP T s).1, GlWh T g) /\ (itemsP T s).1.length + s.next <= (itemsP T s).2.next := by
 have h' : (want T (bs [59]) (itemsLoop T T.length [(itemP T s).1] (itemP T s).2).2).code = 0 := h
 have c1 := (want_ok h').1
 have hI := go2_itemP hT hg hs
 have c2 := itemsLoop_code hT hI.good hI.stk c1
 have ih := wh_itemsLoop hT hN T.length [(itemP T s).1] (itemP T s).2 (fun g hgm => by simp at hgm; subst hgm; exact wh_itemP hN hg c2) hI.good c2 c1
 have hn := whItem_next hT hg hs c2
 refine ⟨ih.1, ?_⟩
 have h2 := ih.2
 show (itemsLoop T T.length [(itemP T s).1] (itemP T s).2).1.length + s.next <= (want T (bs [59]) (itemsLoop T T.length [(itemP T s).1] (itemP T s).2).2).next
 rw [(want_ok h').2.2]
 show _ <= (itemsLoop T T.length [(itemP T s).1] (itemP T s).2).2.next + 1
 simp only [List.length_cons, List.length_nil] at h2
 omega
theorem wh_namesLoop : ∀ (n : Nat) (acc : List (ByteArray × Nat)) (s : PS), OkNames acc -> Good T s -> s.code = 0 -> (namesLoop T n acc s).2.code = 0 -> OkNames (namesLoop T n acc s).1 /\ (namesLoop T n acc s).1.length + s.next <= acc.length + (namesLoop T n acc s).2.next
 | 0, acc, s, ha, hg, hc, h => ⟨ha, Nat.le_refl _⟩
 | n + 1, acc, s, ha, hg, hc, h => by
  rw [namesLoop] at h ⊢
  by_cases hs : sees T (bs [44]) s = true
  ·rw [if_pos hs] at h ⊢
   have hga := good_adv hT hg hs (bs_ne _ (by simp))
   have hsa : Stk T (adv s) := stk_adv hc
   have hI := go2_nameP hT hga hsa
   have c1 := namesLoop_code hT hI.good hI.stk h
   have ih := wh_namesLoop n (acc ++ [(nameP T (adv s)).1]) (nameP T (adv s)).2 (fun x hx => by
    rcases List.mem_append.1 hx with h1 | h1
    ·exact ha x h1
    ·simp at h1; subst h1; exact wh_nameP hN hga c1) hI.good c1 h
   have hn := name_next hT c1 hsa
   have e : (adv s).next = s.next + 1 := rfl
   refine ⟨ih.1, ?_⟩
   have := ih.2
   rw [List.length_append] at this
   simp only [List.length_cons, List.length_nil] at this
   omega
  ·rw [if_neg hs]; exact ⟨ha, Nat.le_refl _⟩
theorem wh_namesP {s : PS} (hg : Good T s) (hs : Stk T s) (h : (namesP T s).2.code = 0) : OkNames (namesP T s).1 /\ (namesP T s).1.length + s.next <= (namesP T s).2.next := by
 have hI := go2_nameP hT hg hs
 have h' : (namesLoop T T.length [(nameP T s).1] (nameP T s).2).2.code = 0 := h
 have c2 := namesLoop_code hT hI.good hI.stk h'
 have ih := wh_namesLoop hT hN T.length [(nameP T s).1] (nameP T s).2 (fun x hx => by simp at hx; subst hx; exact wh_nameP hN hg c2) hI.good c2 h'
 have hn := name_next hT c2 hs
 refine ⟨ih.1, ?_⟩
 have h2 := ih.2
 show (namesLoop T T.length [(nameP T s).1] (nameP T s).2).1.length + s.next <= (namesLoop T T.length [(nameP T s).1] (nameP T s).2).2.next
 simp only [List.length_cons, List.length_nil] at h2
 omega
theorem wh_paramsP {s : PS} (hg : Good T s) (hs : Stk T s) (h : (paramsP T s).2.code = 0) : OkNames (paramsP T s).1 /\ (paramsP T s).1.length + s.next <= (paramsP T s).2.next := by
 unfold paramsP at h ⊢
 by_cases hz : sees T (bs [41]) s = true
 ·rw [if_pos hz]; exact ⟨fun x hx => by simp at hx, by simp⟩
 ·rw [if_neg hz] at h ⊢; exact wh_namesP hT hN hg hs h
theorem wh_localsLoop : ∀ (n : Nat) (acc : List (ByteArray × Nat)) (s : PS), OkNames acc -> Good T s -> s.code = 0 -> (localsLoop T n acc s).2.code = 0 -> OkNames (localsLoop T n acc s).1 /\ (localsLoop T n acc s).1.length + s.next <= acc.length + (localsLoop T n acc s).2.next
 | 0, acc, s, ha, hg, hc, h => ⟨ha, Nat.le_refl _⟩
 | n + 1, acc, s, ha, hg, hc, h => by
  rw [localsLoop] at h ⊢
  by_cases hs : sees T (bs [118, 97, 114]) s = true
  ·rw [if_pos hs] at h ⊢
   have hga := good_adv hT hg hs (bs_ne _ (by simp))
   have hsa : Stk T (adv s) := stk_adv hc
   have hI := go2_namesP hT hga hsa
   have hW := go2_want hT (f := bs [59]) (bs_ne _ (by simp)) hI.good hI.stk
   have c1 := localsLoop_code hT hW.good hW.stk h
   have c2 := (want_ok c1).1
   have hnp := wh_namesP hT hN hga hsa c2
   have ih := wh_localsLoop n (acc ++ (namesP T (adv s)).1) (want T (bs [59]) (namesP T (adv s)).2) (fun x hx => by
    rcases List.mem_append.1 hx with h1 | h1
    ·exact ha x h1
    ·exact hnp.1 x h1) hW.good c1 h
   have e : (adv s).next = s.next + 1 := rfl
   refine ⟨ih.1, ?_⟩
   have h2 := ih.2
   have h3 := hnp.2
   have h4 := hW.le
   rw [List.length_append] at h2
   omega
  ·rw [if_neg hs]; exact ⟨ha, Nat.le_refl _⟩
theorem wh_routineP {s : PS} (hg : Good T s) (hs : Stk T s) (h : (routineP T s).2.code = 0) : WhRo (routineP T s).1 /\ (routineP T s).1.params.length + (routineP T s).1.locals.length <= T.length := by
 have h1 := go2_openN hT hg hs
 have h2 := go2_paramsN hT none h1.good h1.stk
 rw [paramsN_none] at h2
 have h3 := go2_want hT (f := bs [41]) (bs_ne _ (by simp)) h2.good h2.stk
 have h4 := go2_localsLoopN hT T.length none (want T (bs [41]) (paramsP T (openN T s)).2) h3.good h3.stk
 rw [localsLoopN_none T.length []] at h4
 have h5 := go2_want hT (f := bs [98, 101, 103, 105, 110]) (bs_ne _ (by simp)) h4.good h4.stk
 have h6 := go2_list hT none 14 h5.good h5.stk
 have eB : (bodyP T (routineLocals T s).2) = ((listOf T (stmtN T none 14) (want T (bs [98, 101, 103, 105, 110]) (routineLocals T s).2)).1, want T (bs [101, 110, 100]) (listOf T (stmtN T none 14) (want T (bs [98, 101, 103, 105, 110]) (routineLocals T s).2)).2) := by unfold bodyP; rw [stmtN_none]
 have c1 := (want_ok (show (want T (bs [59]) (bodyP T (routineLocals T s).2).2).code = 0 from h)).1
 rw [eB] at c1
 have c2 := (want_ok c1).1
 have c3 := h6.code c2
 have c4 : (localsLoop T T.length [] (want T (bs [41]) (paramsP T (openN T s)).2)).2.code = 0 := (want_ok c3).1
 have c5 := h4.code c4
 have c6 := (want_ok c5).1
 have c7 := h2.code c6
 have c8 : (nameP T s).2.code = 0 := (want_ok (show (want T (bs [40]) (nameP T s).2).code = 0 from c7)).1
 have oP := wh_paramsP hT hN h1.good h1.stk c6
 have oL := wh_localsLoop hT hN T.length [] _ (fun x hx => by simp at hx) h3.good c5 c4
 have oB := wh_body hT hN h5.good h5.stk c2
 refine ⟨⟨wh_nameP hN hg c8, oP.1, oL.1, ?_⟩, ?_⟩
 ·show (bodyP T (routineLocals T s).2).1.length <= 602 /\ WhSts (bodyP T (routineLocals T s).2).1
  rw [eB]; exact oB
 ·have hlast : (localsLoop T T.length [] (want T (bs [41]) (paramsP T (openN T s)).2)).2.next < T.length := h4.good
  have a1 := oP.2
  have a2 := oL.2
  have a3 : (paramsP T (openN T s)).2.next <= (want T (bs [41]) (paramsP T (openN T s)).2).next := h3.le
  show (paramsP T (openN T s)).1.length + (localsLoop T T.length [] (want T (bs [41]) (paramsP T (openN T s)).2)).1.length <= T.length
  simp only [List.length_nil] at a2
  omega
theorem wh_globalsLoop : ∀ (n : Nat) (acc : List Gl) (s : PS), (∀ g ∈ acc, GlWh T g) -> Good T s -> s.code = 0 -> (globalsLoop T n acc s).2.code = 0 -> (∀ g ∈ (globalsLoop T n acc s).1, GlWh T g) /\ (globalsLoop T n acc s).1.length + s.next <= acc.length + (globalsLoop T n acc s).2.next
 | 0, acc, s, ha, hg, hc, h => ⟨ha, Nat.le_refl _⟩
 | n + 1, acc, s, ha, hg, hc, h => by
  have hsa : Stk T (adv s) := stk_adv hc
  have e : (adv s).next = s.next + 1 := rfl
  rw [globalsLoop] at h ⊢
  by_cases h1 : sees T (bs [118, 97, 114]) s = true
  ·rw [if_pos h1] at h ⊢
   have hga := good_adv hT hg h1 (bs_ne _ (by simp))
   have hI := go2_itemsP hT hga hsa
   have c1 := globalsLoop_code hT hI.good hI.stk h
   have hnp := wh_itemsP hT hN hga hsa c1
   have ih := wh_globalsLoop n (acc ++ (itemsP T (adv s)).1) (itemsP T (adv s)).2 (fun x hx => by
    rcases List.mem_append.1 hx with h1 | h1
    ·exact ha x h1
    ·exact hnp.1 x h1) hI.good c1 h
   refine ⟨ih.1, ?_⟩
   have h2 := ih.2
   have h3 := hnp.2
   rw [List.length_append] at h2
   omega
  ·rw [if_neg h1] at h ⊢
   by_cases h2 : sees T (bs [112, 114, 111, 99]) s = true
   ·rw [if_pos h2] at h ⊢
    have hga := good_adv hT hg h2 (bs_ne _ (by simp))
    have hI := go2_routineP hT hga hsa
    have c1 := globalsLoop_code hT hI.good hI.stk h
    have hnp := wh_routineP hT hN hga hsa c1
    have ih := wh_globalsLoop n (acc ++ [.proc (routineP T (adv s)).1]) (routineP T (adv s)).2 (fun x hx => by
     rcases List.mem_append.1 hx with h1 | h1
     ·exact ha x h1
     ·simp at h1; subst h1; exact hnp) hI.good c1 h
    refine ⟨ih.1, ?_⟩
    have h2 := ih.2
    have h3 := hI.le
    rw [List.length_append] at h2
    simp only [List.length_cons, List.length_nil] at h2
    omega
   ·rw [if_neg h2] at h ⊢
    by_cases h3 : sees T (bs [102, 117, 110, 99]) s = true
    ·rw [if_pos h3] at h ⊢
     have hga := good_adv hT hg h3 (bs_ne _ (by simp))
     have hI := go2_routineP hT hga hsa
     have c1 := globalsLoop_code hT hI.good hI.stk h
     have hnp := wh_routineP hT hN hga hsa c1
     have ih := wh_globalsLoop n (acc ++ [.func (routineP T (adv s)).1]) (routineP T (adv s)).2 (fun x hx => by
      rcases List.mem_append.1 hx with h1 | h1
      ·exact ha x h1
      ·simp at h1; subst h1; exact hnp) hI.good c1 h
     refine ⟨ih.1, ?_⟩
     have h2 := ih.2
     have h3 := hI.le
     rw [List.length_append] at h2
     simp only [List.length_cons, List.length_nil] at h2
     omega
    ·rw [if_neg h3]; exact ⟨ha, Nat.le_refl _⟩
theorem wh_program {s : PS} (hg : Good T s) (hc : s.code = 0) (h : (programP T s).2.code = 0) : PrWh T (programP T s).1 := by
 have hG0 := go2_globalsLoopN hT T.length none s hg (stk0 hc)
 rw [globalsLoopN_none T.length [] s] at hG0
 have hb := go2_want hT (f := bs [98, 101, 103, 105, 110]) (bs_ne _ (by simp)) hG0.good hG0.stk
 have hl := go2_list hT none 14 hb.good hb.stk
 have eB : (bodyP T (globalsP T s).2) = ((listOf T (stmtN T none 14) (want T (bs [98, 101, 103, 105, 110]) (globalsP T s).2)).1, want T (bs [101, 110, 100]) (listOf T (stmtN T none 14) (want T (bs [98, 101, 103, 105, 110]) (globalsP T s).2)).2) := by unfold bodyP; rw [stmtN_none]
 have h' : (endP T (want T (bs [46]) (bodyP T (globalsP T s).2).2)).code = 0 := h
 have c0 : (want T (bs [46]) (bodyP T (globalsP T s).2).2).code = 0 := by
  unfold endP at h'
  split at h'
  ·exact h'
  ·exact (fails_live (by decide) h').elim
 have c1 := (want_ok c0).1
 rw [eB] at c1
 have c2 := (want_ok c1).1
 have c3 := hl.code c2
 have c4 : (globalsLoop T T.length [] s).2.code = 0 := (want_ok c3).1
 have oG := wh_globalsLoop hT hN T.length [] s (fun x hx => by simp at hx) hg hc c4
 have oB := wh_body hT hN hb.good hb.stk c2
 have hlast : (globalsLoop T T.length [] s).2.next < T.length := hG0.good
 refine ⟨oG.1, ?_, ?_⟩
 ·have := oG.2
  simp only [List.length_nil] at this
  show (globalsLoop T T.length [] s).1.length <= T.length
  omega
 ·show (bodyP T (globalsP T s).2).1.length <= 602 /\ WhSts (bodyP T (globalsP T s).2).1
  rw [eB]; exact oB
end
end Go.Proofs.YtklobognaldjpaaGreat
