/- Plain: what the program knows of names, against what was declared. Plain: where nothing is wrong, no place is told. Plain: where nothing is wrong with a program, no place is told. Plain: the names of  -/
import Derived.Test.YtklobognaldjpaaGreatCLook5
namespace Go.Proofs.YtklobognaldjpaaGreat
structure PEnv where
 g : ByteArray -> Nat × Nat
 l : ByteArray -> Nat × Nat
 res : ByteArray
def PEnv.find (L : PEnv) (n : ByteArray) : Nat × Nat := if (L.l n).1 = 0 then L.g n else L.l n
def symIn (l : List Sy) (n : ByteArray) : Nat × Nat :=
 match findLast l n with
 | none => (0, 0)
 | some k => ((l.getD k default).kind + 1, (l.getD k default).args)
def resOf (E : Env) : ByteArray :=
 match E.inside with
 | none => ⟨#[]⟩
 | some k => if (E.glob.getD k default).kind = 3 then (E.glob.getD k default).name else ⟨#[]⟩
structure Rep (L : PEnv) (E : Env) : Prop where
 g : ∀ n, L.g n = symIn E.glob n
 l : ∀ n, L.l n = symIn E.here n
 res : L.res = resOf E
 vars : ∀ y ∈ E.here, y.kind = 0
theorem findBelow_lt' {l : List Sy} {n : ByteArray} : ∀ {i k : Nat}, findBelow l n i = some k -> k < i
 | 0, k, h => by simp [findBelow] at h
 | i + 1, k, h => by
  rw [findBelow] at h
  split at h
  ·simp at h; omega
  ·have := findBelow_lt' h; omega
theorem here_kind {E : Env} (hv : ∀ y ∈ E.here, y.kind = 0) {n : ByteArray} {k : Nat} (h : findLast E.here n = some k) : (E.here.getD k default).kind = 0 := by
 have hk : k < E.here.length := findBelow_lt' h
 refine hv _ ?_
 rw [List.getD_eq_getElem?_getD, List.getElem?_eq_getElem hk]
 exact List.getElem_mem hk
theorem Rep.find_kind {L : PEnv} {E : Env} (h : Rep L E) (n : ByteArray) (k : Nat) : (L.find n).1 = k + 1 ↔ (E.kindIx n).1 = k := by
 unfold PEnv.find Env.kindIx
 rw [h.l, h.g]
 unfold symIn
 cases h1 : findLast E.here n with
 | some j =>
  have hk := here_kind h.vars h1
  simp only [Nat.add_eq_zero_iff, Nat.one_ne_zero, and_false, if_false]
  rw [hk]
  constructor
  ·intro h2; show (0 : Int) = k; omega
  ·intro h2; have h3 : (0 : Int) = k := h2; omega
 | none =>
  simp only [if_true]
  cases h2 : findLast E.glob n with
  | none => simp
  | some j =>
   show (E.glob.getD j default).kind + 1 = k + 1 ↔ (((E.glob.getD j default).kind : Nat) : Int) = (k : Int)
   omega
theorem Rep.find_args {L : PEnv} {E : Env} (h : Rep L E) (n : ByteArray) (k : Nat) (hk : k = 2 ∨ k = 3) (hE : (E.kindIx n).1 = k) : (L.find n).2 = E.args n := by
 unfold Env.kindIx at hE
 unfold PEnv.find Env.args
 rw [h.l, h.g]
 unfold symIn
 cases h1 : findLast E.here n with
 | some j => rw [h1] at hE; rcases hk with rfl | rfl <;> simp at hE
 | none =>
  simp only [if_true]
  cases h2 : findLast E.glob n with
  | none => rfl
  | some j => rfl
theorem bytes_empty : (⟨#[]⟩ : ByteArray).toList = [] := by rw [Lib.toList_data]
theorem Rep.res_yes {L : PEnv} {E : Env} (h : Rep L E) {n : ByteArray} (hn : n.toList ≠ []) (he : (n.toList == L.res.toList) = true) (p : Nat) : assignF E n p = none := by
 have he' : n.toList = L.res.toList := by simpa using he
 unfold assignF
 split
 ·rfl
 ·rename_i hr
  rw [h.res] at he'
  unfold resOf at he'
  unfold Env.isRes at hr
  cases hi : E.inside with
  | none => rw [hi] at he'; exact absurd (he'.trans bytes_empty) hn
  | some k =>
   rw [hi] at he' hr
   simp only at he' hr
   by_cases h3 : (E.glob.getD k default).kind = 3
   ·rw [if_pos h3] at he'
    have hr2 : (findLast E.here n).isNone = false := by
     cases hq : (findLast E.here n).isNone with
     | false => rfl
     | true => exact absurd (by rw [hq, decide_eq_true h3, <- he']; simp) hr
    unfold wantF
    have hk : (E.kindIx n).1 = ((0 : Nat) : Int) := by
     unfold Env.kindIx
     cases hf : findLast E.here n with
     | none => rw [hf] at hr2; cases hr2
     | some j => rfl
    rw [if_pos hk]
   ·rw [if_neg h3] at he'
    exact absurd (he'.trans bytes_empty) hn
theorem Rep.res_no {L : PEnv} {E : Env} (h : Rep L E) {n : ByteArray} (he : (n.toList == L.res.toList) = false) (p : Nat) : assignF E n p = wantF E n p 0 := by
 unfold assignF
 split
 ·rename_i hr
  exfalso
  rw [h.res] at he
  unfold resOf at he
  unfold Env.isRes at hr
  cases hi : E.inside with
  | none => rw [hi] at hr; cases hr
  | some k =>
   rw [hi] at he hr
   simp only at he hr
   simp only [Bool.and_eq_true, decide_eq_true_eq] at hr
   obtain ⟨⟨h3, h4⟩, _⟩ := hr
   rw [if_pos h3] at he
   have h5 : (E.glob.getD k default).name.toList = n.toList := by simpa using h4
   rw [h5] at he
   simp at he
 ·rfl
theorem findBelow_append (l : List Sy) (y : Sy) (n : ByteArray) : ∀ i, i <= l.length -> findBelow (l ++ [y]) n i = findBelow l n i
 | 0, _ => rfl
 | i + 1, hi => by
  rw [findBelow, findBelow, findBelow_append l y n i (by omega)]
  have e : (l ++ [y]).getD i default = l.getD i default := by
   rw [List.getD_eq_getElem?_getD, List.getD_eq_getElem?_getD, List.getElem?_append_left (by omega)]
  rw [e]
theorem symIn_append (l : List Sy) (y : Sy) (n : ByteArray) : symIn (l ++ [y]) n = if (y.name.toList == n.toList) = true then (y.kind + 1, y.args) else symIn l n := by
 have e0 : (l ++ [y]).getD l.length default = y := by
  rw [List.getD_eq_getElem?_getD, List.getElem?_append_right (Nat.le_refl _)]; simp
 have e1 : findLast (l ++ [y]) n = if (y.name.toList == n.toList) = true then some l.length else findLast l n := by
  unfold findLast
  rw [List.length_append, show l.length + [y].length = l.length + 1 from rfl, findBelow, e0, findBelow_append l y n _ (Nat.le_refl _)]
 unfold symIn
 rw [e1]
 by_cases h : (y.name.toList == n.toList) = true
 ·rw [if_pos h, if_pos h]
  simp only
  rw [e0]
 ·rw [if_neg h, if_neg h]
  cases hf : findLast l n with
  | none => rfl
  | some k =>
   have hk : k < l.length := findBelow_lt' hf
   simp only
   have e : (l ++ [y]).getD k default = l.getD k default := by
    rw [List.getD_eq_getElem?_getD, List.getD_eq_getElem?_getD, List.getElem?_append_left (by omega)]
   rw [e]
theorem symIn_found (l : List Sy) (n : ByteArray) : (symIn l n).1 = 0 ↔ findLast l n = none := by
 unfold symIn
 cases h : findLast l n with
 | none => simp
 | some k => simp
def putSym (f : ByteArray -> Nat × Nat) (n : ByteArray) (s : Nat × Nat) : ByteArray -> Nat × Nat := fun k => if (n.toList == k.toList) = true then s else f k
theorem Rep.addGlob {L : PEnv} {E : Env} (h : Rep L E) (hi : E.inside = none) (n : ByteArray) (kind args : Nat) : Rep { L with g := putSym L.g n (kind + 1, args) } (E.add false ⟨n, kind, args⟩) := by
 refine ⟨fun k => ?_, h.l, ?_, h.vars⟩
 ·show putSym L.g n (kind + 1, args) k = symIn (E.glob ++ [⟨n, kind, args⟩]) k
  rw [symIn_append]
  unfold putSym
  rw [h.g]
 ·rw [show L.res = resOf E from h.res]
  unfold resOf
  show _ = (match E.inside with | none => _ | some k => _)
  rw [hi]
theorem Rep.addHere {L : PEnv} {E : Env} (h : Rep L E) (n : ByteArray) : Rep { L with l := putSym L.l n (1, 0) } (E.add true ⟨n, 0, 0⟩) := by
 refine ⟨h.g, fun k => ?_, h.res, fun y hy => ?_⟩
 ·show putSym L.l n (1, 0) k = symIn (E.here ++ [⟨n, 0, 0⟩]) k
  rw [symIn_append]
  unfold putSym
  rw [h.l]
 ·have hy' : y ∈ E.here ++ [⟨n, 0, 0⟩] := hy
  rcases List.mem_append.1 hy' with h1 | h1
  ·exact h.vars y h1
  ·simp at h1; subst h1; rfl
def tellF (f : Option (Nat × Nat)) (s : Nat × Nat) : Nat × Nat := if s.1 = 0 then (match f with | none => s | some x => x) else s
theorem tellF_or (f g : Option (Nat × Nat)) (hf : Nz f) (s : Nat × Nat) : tellF g (tellF f s) = tellF (f.or g) s := by
 unfold tellF
 by_cases h : s.1 = 0
 ·rw [if_pos h, if_pos h]
  cases f with
  | none => simp [h]
  | some x => simp [hf x rfl]
 ·rw [if_neg h, if_neg h, if_neg h]
theorem tellF_none (s : Nat × Nat) : tellF none s = s := by unfold tellF; split <;> rfl
section
variable {T : List Tok}
theorem fails_live {c : Nat} {s : PS} (hc : c ≠ 0) (h : (fails T c s).code = 0) : False := by
 unfold fails at h
 simp only at h
 split at h
 ·exact hc h
 ·rename_i hz; exact hz h
variable (hT : Toks T)
include hT
end
section
variable {T : List Tok}
variable (hT : Toks T)
include hT
end
def NmOk (n : ByteArray) : Prop := n.toList ≠ [] /\ n.size <= 600
mutual
def OkEx : Ex -> Prop
 | .nil => True
 | .num _ => True
 | .var n _ => NmOk n
 | .elem n _ i => NmOk n /\ OkEx i
 | .call n _ args => NmOk n /\ args.length <= 602 /\ OkExs args
 | .bin _ l r => OkEx l /\ OkEx r
 | .un _ e => OkEx e
def OkExs : List Ex -> Prop
 | [] => True
 | e :: l => OkEx e /\ OkExs l
end
mutual
def OkSt : St -> Prop
 | .nil => True
 | .assign n _ e => NmOk n /\ OkEx e
 | .put n _ i e => NmOk n /\ OkEx i /\ OkEx e
 | .proc n _ args => NmOk n /\ args.length <= 602 /\ OkExs args
 | .ite c t f => OkEx c /\ OkSt t /\ OkSt f
 | .loop c b => OkEx c /\ OkSt b
 | .block l => l.length <= 602 /\ OkSts l
 | .write e => OkEx e
 | .read n _ => NmOk n
def OkSts : List St -> Prop
 | [] => True
 | e :: l => OkSt e /\ OkSts l
end
def OkNames (l : List (ByteArray × Nat)) : Prop := ∀ x ∈ l, NmOk x.1
structure OkRo (r : Ro) : Prop where
 name : NmOk r.name.1
 params : OkNames r.params
 locals : OkNames r.locals
 body : r.body.length <= 602 /\ OkSts r.body
def OkGl : Gl -> Prop
 | .var n _ => NmOk n
 | .arr n _ _ _ => NmOk n
 | .proc r => OkRo r
 | .func r => OkRo r
theorem okExs_snoc {e : Ex} (he : OkEx e) : ∀ {l : List Ex}, OkExs l -> OkExs (l ++ [e])
 | [], _ => by simp only [List.nil_append, OkExs]; exact ⟨he, trivial⟩
 | a :: l, h => by
  rw [OkExs] at h
  show OkExs (a :: (l ++ [e]))
  rw [OkExs]; exact ⟨h.1, okExs_snoc he h.2⟩
theorem okSts_append {k : List St} (hk : OkSts k) : ∀ {l : List St}, OkSts l -> OkSts (l ++ k)
 | [], _ => hk
 | a :: l, h => by
  rw [OkSts] at h
  show OkSts (a :: (l ++ k))
  rw [OkSts]; exact ⟨h.1, okSts_append hk h.2⟩
def NT (T : List Tok) : Prop := T.length <= 601 /\ ∀ t ∈ T, t.kind = .name -> NmOk t.text
def OX (T : List Tok) (f : PS -> Ex × PS) : Prop := ∀ s, Good T s -> Stk T s -> (f s).2.code = 0 -> OkEx (f s).1
def OS (T : List Tok) (f : PS -> St × PS) : Prop := ∀ s, Good T s -> Stk T s -> (f s).2.code = 0 -> OkSt (f s).1
section
variable {T : List Tok}
theorem ok_cur (hN : NT T) {s : PS} (hg : Good T s) (hk : kindIs T .name s = true) : NmOk (cur T s).text := hN.2 _ (cur_in hg) (by simpa [kindIs] using hk)
theorem ok_nameP (hN : NT T) {s : PS} (hg : Good T s) (h : (nameP T s).2.code = 0) : NmOk (nameP T s).1.1 := by
 obtain ⟨_, hk, e⟩ := name_live h
 rw [e]; exact ok_cur hN hg hk
variable (hT : Toks T)
include hT
theorem ok_chainLoop {pf : PS -> Ex × PS} (hO : OX T pf) (hM : Mon T pf) (hS : SM T pf) {fs : List ByteArray} (hne : ∀ f ∈ fs, f.toList ≠ []) : ∀ (n : Nat) (l : Ex) (s : PS), OkEx l -> Good T s -> Stk T s -> (chainLoop T pf fs n l s).2.code = 0 -> OkEx (chainLoop T pf fs n l s).1
 | 0, l, s, hl, hg, hs, h => hl
 | n + 1, l, s, hl, hg, hs, h => by
  rw [chainLoop] at h ⊢
  by_cases hz : seesAny T fs s = true
  ·rw [if_pos hz] at h ⊢
   have hc := code_of_any hT hs hne hz
   have hsa : Stk T (adv s) := stk_adv hc
   have hga := any_good hT hne hg hz
   have h1 := hS _ hsa
   refine ok_chainLoop hO hM hS hne n _ _ ?_ (hM _ hga).1 h1.1 h
   rw [OkEx]
   exact ⟨hl, hO _ hga hsa (chainLoop_code hT hS hne h1.1 h)⟩
  ·rw [if_neg hz]; exact hl
theorem ok_chain {pf : PS -> Ex × PS} (hO : OX T pf) (hM : Mon T pf) (hS : SM T pf) {fs : List ByteArray} (hne : ∀ f ∈ fs, f.toList ≠ []) : OX T (chain T pf fs) := fun s hg hs h => by
 have h1 := hS s hs
 have h' : (chainLoop T pf fs T.length (pf s).1 (pf s).2).2.code = 0 := h
 exact ok_chainLoop hT hO hM hS hne _ _ _ (hO s hg hs (chainLoop_code hT hS hne h1.1 h')) (hM s hg).1 h1.1 h'
theorem ok_testP {pf : PS -> Ex × PS} (hO : OX T pf) (hM : Mon T pf) (hS : SM T pf) : OX T (testP T pf) := fun s hg hs h => by
 unfold testP at h ⊢
 by_cases hz : seesAny T testOps (pf s).2 = true
 ·rw [if_pos hz] at h ⊢
  have h1 := hS s hs
  have hc := code_of_any hT h1.1 ops_ne.2.2.1 hz
  have hga := any_good hT ops_ne.2.2.1 (hM s hg).1 hz
  show OkEx (.bin _ _ _)
  rw [OkEx]
  exact ⟨hO s hg hs hc, hO _ hga (stk_adv hc) h⟩
 ·rw [if_neg hz] at h ⊢; exact hO s hg hs h
theorem ok_exprOf {pf : PS -> Ex × PS} (hO : OX T pf) (hM : Mon T pf) (hS : SM T pf) : OX T (exprOf T pf) := by
 have a1 : OX T (termOf T pf) := ok_chain hT hO hM hS ops_ne.1
 have a2 : OX T (sumOf T pf) := ok_chain hT a1 (mon_termOf hT hM) (sm_termOf hT hS) ops_ne.2.1
 have a3 : OX T (testOf T pf) := ok_testP hT a2 (mon_sumOf hT hM) (sm_sumOf hT hS)
 have a4 : OX T (andOf T pf) := ok_chain hT a3 (mon_testOf hT hM) (sm_testOf hT hS) ops_ne.2.2.2.1
 exact ok_chain hT a4 (mon_andOf hT hM) (sm_andOf hT hS) ops_ne.2.2.2.2
theorem ok_argsLoop {pf : PS -> Ex × PS} (hO : OX T pf) (hM : Mon T pf) (hS : SM T pf) : ∀ (n : Nat) (l : List Ex) (s : PS), OkExs l -> Good T s -> Stk T s -> (argsLoop T pf n l s).2.code = 0 -> OkExs (argsLoop T pf n l s).1
 | 0, l, s, hl, hg, hs, h => hl
 | n + 1, l, s, hl, hg, hs, h => by
  rw [argsLoop] at h ⊢
  by_cases hz : sees T (bs [44]) s = true
  ·rw [if_pos hz] at h ⊢
   have hc := code_of_sees hT hs (bs_ne _ (by simp)) hz
   have hsa : Stk T (adv s) := stk_adv hc
   have hga := good_adv hT hg hz (bs_ne _ (by simp))
   have h1 := hS _ hsa
   exact ok_argsLoop hO hM hS n _ _ (okExs_snoc (hO _ hga hsa (argsLoop_code hT hS h1.1 h)) hl) (hM _ hga).1 h1.1 h
  ·rw [if_neg hz]; exact hl
omit hT in
theorem argsLoop_len (pf : PS -> Ex × PS) : ∀ (n : Nat) (l : List Ex) (s : PS), (argsLoop T pf n l s).1.length <= l.length + n
 | 0, l, s => Nat.le_refl _
 | n + 1, l, s => by
  rw [argsLoop]
  split
  ·have := argsLoop_len pf n (l ++ [(pf (adv s)).1]) (pf (adv s)).2
   rw [List.length_append] at this
   simp only [List.length_cons, List.length_nil] at this
   omega
  ·show l.length <= _; omega
theorem ok_argsOf (hN : NT T) {pf : PS -> Ex × PS} (hO : OX T pf) (hM : Mon T pf) (hS : SM T pf) {s : PS} (hg : Good T s) (hs : Stk T s) (h : (argsOf T pf s).2.code = 0) : (argsOf T pf s).1.length <= 602 /\ OkExs (argsOf T pf s).1 := by
 unfold argsOf at h ⊢
 by_cases hz : sees T (bs [41]) s = true
 ·rw [if_pos hz]; show _ /\ OkExs []; rw [OkExs]; exact ⟨by simp, trivial⟩
 ·rw [if_neg hz] at h ⊢
  have h1 := hS s hs
  have h' : (want T (bs [41]) (argsLoop T pf T.length [(pf s).1] (pf s).2).2).code = 0 := h
  have c1 := (want_ok h').1
  refine ⟨?_, ok_argsLoop hT hO hM hS _ _ _ ?_ (hM s hg).1 h1.1 c1⟩
  ·show (argsLoop T pf T.length [(pf s).1] (pf s).2).1.length <= 602
   have := argsLoop_len (T := T) pf T.length [(pf s).1] (pf s).2
   have h0 := hN.1
   simp only [List.length_cons, List.length_nil] at this
   omega
  rw [OkExs, OkExs]
  exact ⟨hO s hg hs (argsLoop_code hT hS h1.1 c1), trivial⟩
theorem ok_named (hN : NT T) {pf : PS -> Ex × PS} (hO : OX T pf) (hM : Mon T pf) (hS : SM T pf) {s : PS} (hg : Good T s) (hc : s.code = 0) (hk : kindIs T .name s = true) (h : (namedFactorN T none pf s).2.code = 0) : OkEx (namedFactorN T none pf s).1 := by
 have hn := ok_cur hN hg hk
 have hga := good_adv_kind hT hg hk (by decide)
 have haa : Stk T (adv (adv s)) := fun h => absurd hc h
 unfold namedFactorN at h ⊢
 by_cases h1 : sees T (bs [40]) (adv s) = true
 ·rw [if_pos h1] at h ⊢
  show OkEx (.call _ _ _)
  rw [OkEx]
  exact ⟨hn, ok_argsOf hT hN hO hM hS (good_adv hT hga h1 (bs_ne _ (by simp))) haa h⟩
 ·rw [if_neg h1] at h ⊢
  by_cases h2 : sees T (bs [91]) (adv s) = true
  ·rw [if_pos h2] at h ⊢
   show OkEx (.elem _ _ _)
   rw [OkEx]
   exact ⟨hn, hO _ (good_adv hT hga h2 (bs_ne _ (by simp))) haa (want_ok h).1⟩
  ·rw [if_neg h2]
   show OkEx (.var _ _)
   rw [OkEx]; exact hn
theorem ok_factorN (hN : NT T) : ∀ k, OX T (factorN T none k)
 | 0 => fun s hg hs h => (fails_live (by decide) h).elim
 | k + 1 => fun s hg hs h => by
  have ih := ok_factorN hN k
  have hM := mon_factorN hT none k
  have hS := sm_factorN hT none k
  have hX := ok_exprOf hT ih hM hS
  have hc := sm_code (sm_factorN hT none (k + 1)) hs h
  have hsa : Stk T (adv s) := stk_adv hc
  rw [factorN] at h ⊢
  by_cases h1 : kindIs T .number s = true
  ·rw [if_pos h1]; show OkEx (.num _); rw [OkEx]; trivial
  ·rw [if_neg h1] at h ⊢
   by_cases h2 : kindIs T .name s = true
   ·rw [if_pos h2] at h ⊢; exact ok_named hT hN hX (mon_exprOf hT hM) (sm_exprOf hT hS) hg hc h2 h
   ·rw [if_neg h2] at h ⊢
    by_cases h3 : sees T (bs [40]) s = true
    ·rw [if_pos h3] at h ⊢
     exact hX _ (good_adv hT hg h3 (bs_ne _ (by simp))) hsa (want_ok h).1
    ·rw [if_neg h3] at h ⊢
     by_cases h4 : sees T (bs [45]) s = true
     ·rw [if_pos h4] at h ⊢; show OkEx (.un _ _); rw [OkEx]; exact ih _ (good_adv hT hg h4 (bs_ne _ (by simp))) hsa h
     ·rw [if_neg h4] at h ⊢
      by_cases h5 : sees T (bs [110, 111, 116]) s = true
      ·rw [if_pos h5] at h ⊢; show OkEx (.un _ _); rw [OkEx]; exact ih _ (good_adv hT hg h5 (bs_ne _ (by simp))) hsa h
      ·rw [if_neg h5] at h; exact (fails_live (by decide) h).elim
theorem ok_exprN (hN : NT T) (k : Nat) : OX T (exprN T none k) := ok_exprOf hT (ok_factorN hT hN k) (mon_factorN hT none k) (sm_factorN hT none k)
theorem ok_namedSt (hN : NT T) {ex : PS -> Ex × PS} (hO : OX T ex) (hM : Mon T ex) (hS : SM T ex) {s : PS} (hg : Good T s) (hc : s.code = 0) (hk : kindIs T .name s = true) (h : (namedStN T none ex s).2.code = 0) : OkSt (namedStN T none ex s).1 := by
 have hn := ok_cur hN hg hk
 have hga := good_adv_kind hT hg hk (by decide)
 have haa : Stk T (adv (adv s)) := fun h => absurd hc h
 unfold namedStN at h ⊢
 by_cases h1 : sees T (bs [40]) (adv s) = true
 ·rw [if_pos h1] at h ⊢
  show OkSt (.proc _ _ _)
  rw [OkSt]
  exact ⟨hn, ok_argsOf hT hN hO hM hS (good_adv hT hga h1 (bs_ne _ (by simp))) haa h⟩
 ·rw [if_neg h1] at h ⊢
  by_cases h2 : sees T (bs [91]) (adv s) = true
  ·rw [if_pos h2] at h ⊢
   have hgaa := good_adv hT hga h2 (bs_ne _ (by simp))
   have hi := (sm_indexOf hT hS _ haa).1
   have hw := (sm_want hT (f := bs [58, 61]) (bs_ne _ (by simp)) hi).1
   have c1 := sm_code hS hw h
   have c2 := (want_ok c1).1
   have hgi := (mon_indexOf hT hM _ hgaa).1
   have hgw := (mon_want hT (f := bs [58, 61]) (bs_ne _ (by simp)) hgi).1
   show OkSt (.put _ _ _ _)
   rw [OkSt]
   exact ⟨hn, hO _ hgaa haa (want_ok c2).1, hO _ hgw hw h⟩
  ·rw [if_neg h2] at h ⊢
   by_cases h3 : sees T (bs [58, 61]) (adv s) = true
   ·rw [if_pos h3] at h ⊢
    show OkSt (.assign _ _ _)
    rw [OkSt]
    exact ⟨hn, hO _ (good_adv hT hga h3 (bs_ne _ (by simp))) haa h⟩
   ·rw [if_neg h3] at h
    exact (fails_live (by decide) (sm_code hS (stk_fails 4 (adv s)) h)).elim
theorem ok_listLoop {st : PS -> St × PS} (hO : OS T st) (hM : Mon T st) (hS : SM T st) : ∀ (n : Nat) (l : List St) (s : PS), OkSts l -> Good T s -> Stk T s -> (listLoop T st n l s).2.code = 0 -> OkSts (listLoop T st n l s).1
 | 0, l, s, hl, hg, hs, h => hl
 | n + 1, l, s, hl, hg, hs, h => by
  have one : (listOne T st s).2.code = 0 -> OkSts (listOne T st s).1 := fun h1 => by
   unfold listOne at h1 ⊢
   split at h1
   ·rename_i hz; rw [if_pos hz]; show OkSts []; rw [OkSts]; trivial
   ·rename_i hz; rw [if_neg hz]; show OkSts [_]; rw [OkSts, OkSts]; exact ⟨hO s hg hs h1, trivial⟩
  rw [listLoop_one] at h ⊢
  have s1 := sm_listOne hS s hs
  have m1 := mon_listOne hM s hg
  by_cases hz : sees T (bs [59]) (listOne T st s).2 = true
  ·rw [if_pos hz] at h ⊢
   have c1 := code_of_sees hT s1.1 (bs_ne _ (by simp)) hz
   exact ok_listLoop hO hM hS n _ _ (okSts_append (one c1) hl) (good_adv hT m1.1 hz (bs_ne _ (by simp))) (stk_adv c1) h
  ·rw [if_neg hz] at h ⊢
   exact okSts_append (one h) hl
omit hT in
theorem listLoop_len (st : PS -> St × PS) : ∀ (n : Nat) (l : List St) (s : PS), (listLoop T st n l s).1.length <= l.length + n
 | 0, l, s => Nat.le_refl _
 | n + 1, l, s => by
  have one : (listOne T st s).1.length <= 1 := by unfold listOne; split <;> simp
  rw [listLoop]
  split
  ·have := listLoop_len st n (l ++ (listOne T st s).1) (adv (listOne T st s).2)
   rw [List.length_append] at this
   omega
  ·show (l ++ (listOne T st s).1).length <= _; rw [List.length_append]; omega
theorem ok_listOf (hN : NT T) {st : PS -> St × PS} (hO : OS T st) (hM : Mon T st) (hS : SM T st) {s : PS} (hg : Good T s) (hs : Stk T s) (h : (listOf T st s).2.code = 0) : (listOf T st s).1.length <= 602 /\ OkSts (listOf T st s).1 :=
 ⟨by have := listLoop_len (T := T) st T.length [] s; have h0 := hN.1; simp only [List.length_nil] at this; show (listLoop T st T.length [] s).1.length <= 602; omega, ok_listLoop hT hO hM hS T.length [] s (by rw [OkSts]; trivial) hg hs h⟩
theorem ok_stmtN (hN : NT T) : ∀ k, OS T (stmtN T none k)
 | 0 => fun s hg hs h => (fails_live (by decide) h).elim
 | k + 1 => fun s hg hs h => by
  have ih := ok_stmtN hN k
  have hMS := mon_stmtN hT none k
  have hSS := sm_stmtN hT none k
  have hO := ok_exprN hT hN k
  have hM := mon_exprN hT none k
  have hS := sm_exprN hT none k
  have hc := sm_code (sm_stmtN hT none (k + 1)) hs h
  have hsa : Stk T (adv s) := stk_adv hc
  rw [stmtN] at h ⊢
  by_cases h1 : kindIs T .name s = true
  ·rw [if_pos h1] at h ⊢; exact ok_namedSt hT hN hO hM hS hg hc h1 h
  ·rw [if_neg h1] at h ⊢
   by_cases h2 : sees T (bs [105, 102]) s = true
   ·rw [if_pos h2] at h ⊢
    have hga := good_adv hT hg h2 (bs_ne _ (by simp))
    have m1 := hM _ hga
    have s1 := hS _ hsa
    have m2 := mon_want hT (f := bs [116, 104, 101, 110]) (bs_ne _ (by simp)) m1.1
    have s2 := sm_want hT (f := bs [116, 104, 101, 110]) (bs_ne _ (by simp)) s1.1
    have m3 := hMS _ m2.1
    have s3 := hSS _ s2.1
    have key : (stmtN T none k (want T (bs [116, 104, 101, 110]) (exprN T none k (adv s)).2)).2.code = 0 -> OkEx (exprN T none k (adv s)).1 /\ OkSt (stmtN T none k (want T (bs [116, 104, 101, 110]) (exprN T none k (adv s)).2)).1 := fun c3 => by
     have c2 := sm_code hSS s2.1 c3
     exact ⟨hO _ hga hsa (want_ok c2).1, ih _ m2.1 s2.1 c3⟩
    unfold choiceSt at h ⊢
    by_cases hz : sees T (bs [101, 108, 115, 101]) (stmtN T none k (want T (bs [116, 104, 101, 110]) (exprN T none k (adv s)).2)).2 = true
    ·rw [if_pos hz] at h ⊢
     have c3 := code_of_sees hT s3.1 (bs_ne _ (by simp)) hz
     obtain ⟨o1, o2⟩ := key c3
     show OkSt (.ite _ _ _)
     rw [OkSt]
     exact ⟨o1, o2, ih _ (good_adv hT m3.1 hz (bs_ne _ (by simp))) (stk_adv c3) h⟩
    ·rw [if_neg hz] at h ⊢
     obtain ⟨o1, o2⟩ := key h
     show OkSt (.ite _ _ .nil)
     rw [OkSt, OkSt]
     exact ⟨o1, o2, trivial⟩
   ·rw [if_neg h2] at h ⊢
    by_cases h3 : sees T (bs [119, 104, 105, 108, 101]) s = true
    ·rw [if_pos h3] at h ⊢
     have hga := good_adv hT hg h3 (bs_ne _ (by simp))
     have m1 := hM _ hga
     have s1 := hS _ hsa
     have m2 := mon_want hT (f := bs [100, 111]) (bs_ne _ (by simp)) m1.1
     have s2 := sm_want hT (f := bs [100, 111]) (bs_ne _ (by simp)) s1.1
     have c2 := sm_code hSS s2.1 h
     show OkSt (.loop _ _)
     rw [OkSt]
     exact ⟨hO _ hga hsa (want_ok c2).1, ih _ m2.1 s2.1 h⟩
    ·rw [if_neg h3] at h ⊢
     by_cases h4 : sees T (bs [98, 101, 103, 105, 110]) s = true
     ·rw [if_pos h4] at h ⊢
      show OkSt (.block _)
      rw [OkSt]
      exact ok_listOf hT hN ih hMS hSS (good_adv hT hg h4 (bs_ne _ (by simp))) hsa (want_ok h).1
     ·rw [if_neg h4] at h ⊢
      by_cases h5 : sees T (bs [119, 114, 105, 116, 101]) s = true
      ·rw [if_pos h5] at h ⊢
       show OkSt (.write _)
       rw [OkSt]
       exact hO _ (good_adv hT hg h5 (bs_ne _ (by simp))) hsa h
      ·rw [if_neg h5] at h ⊢
       by_cases h6 : sees T (bs [114, 101, 97, 100]) s = true
       ·rw [if_pos h6] at h ⊢
        have hga := good_adv hT hg h6 (bs_ne _ (by simp))
        have h7 : (readN T none (adv s)).code = 0 := h
        show OkSt (.read _ _)
        rw [OkSt]
        unfold readN at h7
        split at h7
        ·rename_i hk; rw [nameP_kind hk]; exact ok_cur hN hga hk
        ·exact (fails_live (by decide) h7).elim
       ·rw [if_neg h6] at h; exact (fails_live (by decide) h).elim
theorem ok_body (hN : NT T) {s : PS} (hg : Good T s) (hs : Stk T s) (h : (listOf T (stmtN T none 14) s).2.code = 0) : (listOf T (stmtN T none 14) s).1.length <= 602 /\ OkSts (listOf T (stmtN T none 14) s).1 :=
 ok_listOf hT hN (ok_stmtN hT hN 14) (mon_stmtN hT none 14) (sm_stmtN hT none 14) hg hs h
end
def BdGl (T : List Tok) : Gl -> Prop
 | .proc r => r.params.length + r.locals.length <= T.length
 | .func r => r.params.length + r.locals.length <= T.length
 | _ => True
def GlOk (T : List Tok) (g : Gl) : Prop := OkGl g /\ BdGl T g
structure PrOk (T : List Tok) (p : Pr) : Prop where
 globals : ∀ g ∈ p.globals, GlOk T g
 len : p.globals.length <= T.length
 body : p.body.length <= 602 /\ OkSts p.body
section
variable {T : List Tok} (hT : Toks T) (hN : NT T)
include hT hN
omit hT in
theorem ok_itemP {s : PS} (hg : Good T s) (h : (itemP T s).2.code = 0) : GlOk T (itemP T s).1 := by
 unfold itemP at h ⊢
 by_cases hb : sees T (bs [91]) (nameP T s).2 = true
 ·rw [if_pos hb] at h ⊢
  have c1 := (want_ok h).1
  have c2 := (num_live c1).1
  exact ⟨ok_nameP hN hg (show (nameP T s).2.code = 0 from c2), trivial⟩
 ·rw [if_neg hb] at h ⊢
  exact ⟨ok_nameP hN hg h, trivial⟩
omit hN in
theorem itemP_next {s : PS} (hg : Good T s) (hs : Stk T s) (h : (itemP T s).2.code = 0) : s.next + 1 <= (itemP T s).2.next := by
 have h1 := go2_nameP hT hg hs
 unfold itemP at h ⊢
 by_cases hb : sees T (bs [91]) (nameP T s).2 = true
 ·rw [if_pos hb] at h ⊢
  have h2 := go2_adv hT (bs_ne _ (by simp)) h1.good h1.stk hb
  have h3 := go2_numP hT h2.good h2.stk
  have h4 := go2_want hT (f := bs [93]) (bs_ne _ (by simp)) h3.good h3.stk
  have c1 := (want_ok h).1
  have c2 := (num_live c1).1
  have hn := name_next hT (show (nameP T s).2.code = 0 from c2) hs
  show s.next + 1 <= (want T (bs [93]) (numP T (adv (nameP T s).2)).2).next
  have := h2.le; have := h3.le; have := h4.le
  omega
 ·rw [if_neg hb] at h ⊢
  show s.next + 1 <= (nameP T s).2.next
  rw [name_next hT h hs]; exact Nat.le_refl _
theorem ok_itemsLoop : ∀ (n : Nat) (acc : List Gl) (s : PS), (∀ g ∈ acc, GlOk T g) -> Good T s -> s.code = 0 -> (itemsLoop T n acc s).2.code = 0 -> (∀ g ∈ (itemsLoop T n acc s).1, GlOk T g) /\ (itemsLoop T n acc s).1.length + s.next <= acc.length + (itemsLoop T n acc s).2.next
 | 0, acc, s, ha, hg, hc, h => ⟨ha, Nat.le_refl _⟩
 | n + 1, acc, s, ha, hg, hc, h => by
  rw [itemsLoop] at h ⊢
  by_cases hs : sees T (bs [44]) s = true
  ·rw [if_pos hs] at h ⊢
   have hga := good_adv hT hg hs (bs_ne _ (by simp))
   have hsa : Stk T (adv s) := stk_adv hc
   have hI := go2_itemP hT hga hsa
   have c1 := itemsLoop_code hT hI.good hI.stk h
   have ih := ok_itemsLoop n (acc ++ [(itemP T (adv s)).1]) (itemP T (adv s)).2 (fun g hgm => by
    rcases List.mem_append.1 hgm with h1 | h1
    ·exact ha g h1
    ·simp at h1; subst h1; exact ok_itemP hN hga c1) hI.good c1 h
   have hn := itemP_next hT hga hsa c1
   have e : (adv s).next = s.next + 1 := rfl
   refine ⟨ih.1, ?_⟩
   have := ih.2
   rw [List.length_append] at this
   simp only [List.length_cons, List.length_nil] at this
   omega
  ·rw [if_neg hs]; exact ⟨ha, Nat.le_refl _⟩
theorem ok_itemsP {s : PS} (hg : Good T s) (hs : Stk T s) (h : (itemsP T s).2.code = 0) : (∀ g ∈ (itemsP T s).1, GlOk T g) /\ (itemsP T s).1.length + s.next <= (itemsP T s).2.next := by
 have h' : (want T (bs [59]) (itemsLoop T T.length [(itemP T s).1] (itemP T s).2).2).code = 0 := h
 have c1 := (want_ok h').1
 have hI := go2_itemP hT hg hs
 have c2 := itemsLoop_code hT hI.good hI.stk c1
 have ih := ok_itemsLoop hT hN T.length [(itemP T s).1] (itemP T s).2 (fun g hgm => by simp at hgm; subst hgm; exact ok_itemP hN hg c2) hI.good c2 c1
 have hn := itemP_next hT hg hs c2
 refine ⟨ih.1, ?_⟩
 have h2 := ih.2
 show (itemsLoop T T.length [(itemP T s).1] (itemP T s).2).1.length + s.next <= (want T (bs [59]) (itemsLoop T T.length [(itemP T s).1] (itemP T s).2).2).next
 rw [(want_ok h').2.2]
 show _ <= (itemsLoop T T.length [(itemP T s).1] (itemP T s).2).2.next + 1
 simp only [List.length_cons, List.length_nil] at h2
 omega
theorem ok_namesLoop : ∀ (n : Nat) (acc : List (ByteArray × Nat)) (s : PS), OkNames acc -> Good T s -> s.code = 0 -> (namesLoop T n acc s).2.code = 0 -> OkNames (namesLoop T n acc s).1 /\ (namesLoop T n acc s).1.length + s.next <= acc.length + (namesLoop T n acc s).2.next
 | 0, acc, s, ha, hg, hc, h => ⟨ha, Nat.le_refl _⟩
 | n + 1, acc, s, ha, hg, hc, h => by
  rw [namesLoop] at h ⊢
  by_cases hs : sees T (bs [44]) s = true
  ·rw [if_pos hs] at h ⊢
   have hga := good_adv hT hg hs (bs_ne _ (by simp))
   have hsa : Stk T (adv s) := stk_adv hc
   have hI := go2_nameP hT hga hsa
   have c1 := namesLoop_code hT hI.good hI.stk h
   have ih := ok_namesLoop n (acc ++ [(nameP T (adv s)).1]) (nameP T (adv s)).2 (fun x hx => by
    rcases List.mem_append.1 hx with h1 | h1
    ·exact ha x h1
    ·simp at h1; subst h1; exact ok_nameP hN hga c1) hI.good c1 h
   have hn := name_next hT c1 hsa
   have e : (adv s).next = s.next + 1 := rfl
   refine ⟨ih.1, ?_⟩
   have := ih.2
   rw [List.length_append] at this
   simp only [List.length_cons, List.length_nil] at this
   omega
  ·rw [if_neg hs]; exact ⟨ha, Nat.le_refl _⟩
theorem ok_namesP {s : PS} (hg : Good T s) (hs : Stk T s) (h : (namesP T s).2.code = 0) : OkNames (namesP T s).1 /\ (namesP T s).1.length + s.next <= (namesP T s).2.next := by
 have hI := go2_nameP hT hg hs
 have h' : (namesLoop T T.length [(nameP T s).1] (nameP T s).2).2.code = 0 := h
 have c2 := namesLoop_code hT hI.good hI.stk h'
 have ih := ok_namesLoop hT hN T.length [(nameP T s).1] (nameP T s).2 (fun x hx => by simp at hx; subst hx; exact ok_nameP hN hg c2) hI.good c2 h'
 have hn := name_next hT c2 hs
 refine ⟨ih.1, ?_⟩
 have h2 := ih.2
 show (namesLoop T T.length [(nameP T s).1] (nameP T s).2).1.length + s.next <= (namesLoop T T.length [(nameP T s).1] (nameP T s).2).2.next
 simp only [List.length_cons, List.length_nil] at h2
 omega
theorem ok_paramsP {s : PS} (hg : Good T s) (hs : Stk T s) (h : (paramsP T s).2.code = 0) : OkNames (paramsP T s).1 /\ (paramsP T s).1.length + s.next <= (paramsP T s).2.next := by
 unfold paramsP at h ⊢
 by_cases hz : sees T (bs [41]) s = true
 ·rw [if_pos hz]; exact ⟨fun x hx => by simp at hx, by simp⟩
 ·rw [if_neg hz] at h ⊢; exact ok_namesP hT hN hg hs h
theorem ok_localsLoop : ∀ (n : Nat) (acc : List (ByteArray × Nat)) (s : PS), OkNames acc -> Good T s -> s.code = 0 -> (localsLoop T n acc s).2.code = 0 -> OkNames (localsLoop T n acc s).1 /\ (localsLoop T n acc s).1.length + s.next <= acc.length + (localsLoop T n acc s).2.next
 | 0, acc, s, ha, hg, hc, h => ⟨ha, Nat.le_refl _⟩
 | n + 1, acc, s, ha, hg, hc, h => by
  rw [localsLoop] at h ⊢
  by_cases hs : sees T (bs [118, 97, 114]) s = true
  ·rw [if_pos hs] at h ⊢
   have hga := good_adv hT hg hs (bs_ne _ (by simp))
   have hsa : Stk T (adv s) := stk_adv hc
   have hI := go2_namesP hT hga hsa
   have hW := go2_want hT (f := bs [59]) (bs_ne _ (by simp)) hI.good hI.stk
   have c1 := localsLoop_code hT hW.good hW.stk h
   have c2 := (want_ok c1).1
   have hnp := ok_namesP hT hN hga hsa c2
   have ih := ok_localsLoop n (acc ++ (namesP T (adv s)).1) (want T (bs [59]) (namesP T (adv s)).2) (fun x hx => by
    rcases List.mem_append.1 hx with h1 | h1
    ·exact ha x h1
    ·exact hnp.1 x h1) hW.good c1 h
   have e : (adv s).next = s.next + 1 := rfl
   refine ⟨ih.1, ?_⟩
   have h2 := ih.2
   have h3 := hnp.2
   have h4 := hW.le
   rw [List.length_append] at h2
   omega
  ·rw [if_neg hs]; exact ⟨ha, Nat.le_refl _⟩
theorem ok_routineP {s : PS} (hg : Good T s) (hs : Stk T s) (h : (routineP T s).2.code = 0) : OkRo (routineP T s).1 /\ (routineP T s).1.params.length + (routineP T s).1.locals.length <= T.length := by
 have h1 := go2_openN hT hg hs
 have h2 := go2_paramsN hT none h1.good h1.stk
 rw [paramsN_none] at h2
 have h3 := go2_want hT (f := bs [41]) (bs_ne _ (by simp)) h2.good h2.stk
 have h4 := go2_localsLoopN hT T.length none (want T (bs [41]) (paramsP T (openN T s)).2) h3.good h3.stk
 rw [localsLoopN_none T.length []] at h4
 have h5 := go2_want hT (f := bs [98, 101, 103, 105, 110]) (bs_ne _ (by simp)) h4.good h4.stk
 have h6 := go2_list hT none 14 h5.good h5.stk
 have eB : (bodyP T (routineLocals T s).2) = ((listOf T (stmtN T none 14) (want T (bs [98, 101, 103, 105, 110]) (routineLocals T s).2)).1, want T (bs [101, 110, 100]) (listOf T (stmtN T none 14) (want T (bs [98, 101, 103, 105, 110]) (routineLocals T s).2)).2) := by unfold bodyP; rw [stmtN_none]
 have c1 := (want_ok (show (want T (bs [59]) (bodyP T (routineLocals T s).2).2).code = 0 from h)).1
 rw [eB] at c1
 have c2 := (want_ok c1).1
 have c3 := h6.code c2
 have c4 : (localsLoop T T.length [] (want T (bs [41]) (paramsP T (openN T s)).2)).2.code = 0 := (want_ok c3).1
 have c5 := h4.code c4
 have c6 := (want_ok c5).1
 have c7 := h2.code c6
 have c8 : (nameP T s).2.code = 0 := (want_ok (show (want T (bs [40]) (nameP T s).2).code = 0 from c7)).1
 have oP := ok_paramsP hT hN h1.good h1.stk c6
 have oL := ok_localsLoop hT hN T.length [] _ (fun x hx => by simp at hx) h3.good c5 c4
 have oB := ok_body hT hN h5.good h5.stk c2
 refine ⟨⟨ok_nameP hN hg c8, oP.1, oL.1, ?_⟩, ?_⟩
 ·show (bodyP T (routineLocals T s).2).1.length <= 602 /\ OkSts (bodyP T (routineLocals T s).2).1
  rw [eB]; exact oB
 ·have hlast : (localsLoop T T.length [] (want T (bs [41]) (paramsP T (openN T s)).2)).2.next < T.length := h4.good
  have a1 := oP.2
  have a2 := oL.2
  have a3 : (paramsP T (openN T s)).2.next <= (want T (bs [41]) (paramsP T (openN T s)).2).next := h3.le
  show (paramsP T (openN T s)).1.length + (localsLoop T T.length [] (want T (bs [41]) (paramsP T (openN T s)).2)).1.length <= T.length
  simp only [List.length_nil] at a2
  omega
theorem ok_globalsLoop : ∀ (n : Nat) (acc : List Gl) (s : PS), (∀ g ∈ acc, GlOk T g) -> Good T s -> s.code = 0 -> (globalsLoop T n acc s).2.code = 0 -> (∀ g ∈ (globalsLoop T n acc s).1, GlOk T g) /\ (globalsLoop T n acc s).1.length + s.next <= acc.length + (globalsLoop T n acc s).2.next
 | 0, acc, s, ha, hg, hc, h => ⟨ha, Nat.le_refl _⟩
 | n + 1, acc, s, ha, hg, hc, h => by
  have hsa : Stk T (adv s) := stk_adv hc
  have e : (adv s).next = s.next + 1 := rfl
  rw [globalsLoop] at h ⊢
  by_cases h1 : sees T (bs [118, 97, 114]) s = true
  ·rw [if_pos h1] at h ⊢
   have hga := good_adv hT hg h1 (bs_ne _ (by simp))
   have hI := go2_itemsP hT hga hsa
   have c1 := globalsLoop_code hT hI.good hI.stk h
   have hnp := ok_itemsP hT hN hga hsa c1
   have ih := ok_globalsLoop n (acc ++ (itemsP T (adv s)).1) (itemsP T (adv s)).2 (fun x hx => by
    rcases List.mem_append.1 hx with h1 | h1
    ·exact ha x h1
    ·exact hnp.1 x h1) hI.good c1 h
   refine ⟨ih.1, ?_⟩
   have h2 := ih.2
   have h3 := hnp.2
   rw [List.length_append] at h2
   omega
  ·rw [if_neg h1] at h ⊢
   by_cases h2 : sees T (bs [112, 114, 111, 99]) s = true
   ·rw [if_pos h2] at h ⊢
    have hga := good_adv hT hg h2 (bs_ne _ (by simp))
    have hI := go2_routineP hT hga hsa
    have c1 := globalsLoop_code hT hI.good hI.stk h
    have hnp := ok_routineP hT hN hga hsa c1
    have ih := ok_globalsLoop n (acc ++ [.proc (routineP T (adv s)).1]) (routineP T (adv s)).2 (fun x hx => by
     rcases List.mem_append.1 hx with h1 | h1
     ·exact ha x h1
     ·simp at h1; subst h1; exact hnp) hI.good c1 h
    refine ⟨ih.1, ?_⟩
    have h2 := ih.2
    have h3 := hI.le
    rw [List.length_append] at h2
    simp only [List.length_cons, List.length_nil] at h2
    omega
   ·rw [if_neg h2] at h ⊢
    by_cases h3 : sees T (bs [102, 117, 110, 99]) s = true
    ·rw [if_pos h3] at h ⊢
     have hga := good_adv hT hg h3 (bs_ne _ (by simp))
     have hI := go2_routineP hT hga hsa
     have c1 := globalsLoop_code hT hI.good hI.stk h
     have hnp := ok_routineP hT hN hga hsa c1
     have ih := ok_globalsLoop n (acc ++ [.func (routineP T (adv s)).1]) (routineP T (adv s)).2 (fun x hx => by
      rcases List.mem_append.1 hx with h1 | h1
      ·exact ha x h1
      ·simp at h1; subst h1; exact hnp) hI.good c1 h
     refine ⟨ih.1, ?_⟩
     have h2 := ih.2
     have h3 := hI.le
     rw [List.length_append] at h2
     simp only [List.length_cons, List.length_nil] at h2
     omega
    ·rw [if_neg h3]; exact ⟨ha, Nat.le_refl _⟩
theorem ok_program {s : PS} (hg : Good T s) (hc : s.code = 0) (h : (programP T s).2.code = 0) : PrOk T (programP T s).1 := by
 have hG0 := go2_globalsLoopN hT T.length none s hg (stk0 hc)
 rw [globalsLoopN_none T.length [] s] at hG0
 have hb := go2_want hT (f := bs [98, 101, 103, 105, 110]) (bs_ne _ (by simp)) hG0.good hG0.stk
 have hl := go2_list hT none 14 hb.good hb.stk
 have eB : (bodyP T (globalsP T s).2) = ((listOf T (stmtN T none 14) (want T (bs [98, 101, 103, 105, 110]) (globalsP T s).2)).1, want T (bs [101, 110, 100]) (listOf T (stmtN T none 14) (want T (bs [98, 101, 103, 105, 110]) (globalsP T s).2)).2) := by unfold bodyP; rw [stmtN_none]
 have h' : (endP T (want T (bs [46]) (bodyP T (globalsP T s).2).2)).code = 0 := h
 have c0 : (want T (bs [46]) (bodyP T (globalsP T s).2).2).code = 0 := by
  unfold endP at h'
  split at h'
  ·exact h'
  ·exact (fails_live (by decide) h').elim
 have c1 := (want_ok c0).1
 rw [eB] at c1
 have c2 := (want_ok c1).1
 have c3 := hl.code c2
 have c4 : (globalsLoop T T.length [] s).2.code = 0 := (want_ok c3).1
 have oG := ok_globalsLoop hT hN T.length [] s (fun x hx => by simp at hx) hg hc c4
 have oB := ok_body hT hN hb.good hb.stk c2
 have hlast : (globalsLoop T T.length [] s).2.next < T.length := hG0.good
 refine ⟨oG.1, ?_, ?_⟩
 ·have := oG.2
  simp only [List.length_nil] at this
  show (globalsLoop T T.length [] s).1.length <= T.length
  omega
 ·show (bodyP T (globalsP T s).2).1.length <= 602 /\ OkSts (bodyP T (globalsP T s).2).1
  rw [eB]; exact oB
end
end Go.Proofs.YtklobognaldjpaaGreat
