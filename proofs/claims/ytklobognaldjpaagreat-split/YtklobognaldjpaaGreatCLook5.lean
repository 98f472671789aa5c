/- Plain functions: names looked at in the tree; brackets. Plain: where the syntax is right, the reader that looks at names stops at what is wrong first in the tree. Plain: statements: where the syntax i -/
import Derived.Test.YtklobognaldjpaaGreatCNam4
namespace Go.Proofs.YtklobognaldjpaaGreat
def wantF (E : Env) (n : ByteArray) (p kind : Nat) : Option (Nat × Nat) := if (E.kindIx n).1 = kind then none else some (6, p)
def callF (E : Env) (n : ByteArray) (p kind many : Nat) : Option (Nat × Nat) := if (E.kindIx n).1 = kind then (if many = E.args n then none else some (7, p)) else some (6, p)
def assignF (E : Env) (n : ByteArray) (p : Nat) : Option (Nat × Nat) := if E.isRes n then none else wantF E n p 0
mutual
def lookEx (E : Env) : Ex -> Option (Nat × Nat)
 | .nil => none
 | .num _ => none
 | .var n p => wantF E n p 0
 | .elem n p i => (wantF E n p 1).or (lookEx E i)
 | .call n p args => (callF E n p 3 args.length).or (lookExs E args)
 | .bin _ l r => (lookEx E l).or (lookEx E r)
 | .un _ e => lookEx E e
def lookExs (E : Env) : List Ex -> Option (Nat × Nat)
 | [] => none
 | e :: l => (lookEx E e).or (lookExs E l)
end
mutual
def lookSt (E : Env) : St -> Option (Nat × Nat)
 | .nil => none
 | .assign n p e => (assignF E n p).or (lookEx E e)
 | .put n p i e => ((wantF E n p 1).or (lookEx E i)).or (lookEx E e)
 | .proc n p args => (callF E n p 2 args.length).or (lookExs E args)
 | .ite c t f => ((lookEx E c).or (lookSt E t)).or (lookSt E f)
 | .loop c b => (lookEx E c).or (lookSt E b)
 | .block l => lookSts E l
 | .write e => lookEx E e
 | .read n p => wantF E n p 0
def lookSts (E : Env) : List St -> Option (Nat × Nat)
 | [] => none
 | e :: l => (lookSt E e).or (lookSts E l)
end
def Nz (f : Option (Nat × Nat)) : Prop := ∀ x, f = some x -> x.1 ≠ 0
theorem Nz.none : Nz none := fun _ h => by cases h
theorem Nz.or {a b : Option (Nat × Nat)} (ha : Nz a) (hb : Nz b) : Nz (a.or b) := by
 intro x hx
 cases a with
 | none => exact hb x (by simpa using hx)
 | some y => exact ha x (by simpa using hx)
theorem nz_wantF (E : Env) (n : ByteArray) (p kind : Nat) : Nz (wantF E n p kind) := by
 intro x hx; unfold wantF at hx; split at hx
 ·cases hx
 ·cases hx; simp
theorem nz_callF (E : Env) (n : ByteArray) (p kind many : Nat) : Nz (callF E n p kind many) := by
 intro x hx; unfold callF at hx; split at hx
 ·split at hx
  ·cases hx
  ·cases hx; simp
 ·cases hx; simp
theorem nz_assignF (E : Env) (n : ByteArray) (p : Nat) : Nz (assignF E n p) := by
 unfold assignF; split
 ·exact .none
 ·exact nz_wantF _ _ _ _
mutual
theorem nz_lookEx (E : Env) : ∀ e, Nz (lookEx E e)
 | .nil => by rw [lookEx]; exact .none
 | .num _ => by rw [lookEx]; exact .none
 | .var n p => by rw [lookEx]; exact nz_wantF _ _ _ _
 | .elem n p i => by rw [lookEx]; exact (nz_wantF _ _ _ _).or (nz_lookEx E i)
 | .call n p args => by rw [lookEx]; exact (nz_callF _ _ _ _ _).or (nz_lookExs E args)
 | .bin _ l r => by rw [lookEx]; exact (nz_lookEx E l).or (nz_lookEx E r)
 | .un _ e => by rw [lookEx]; exact nz_lookEx E e
theorem nz_lookExs (E : Env) : ∀ l, Nz (lookExs E l)
 | [] => by rw [lookExs]; exact .none
 | e :: l => by rw [lookExs]; exact (nz_lookEx E e).or (nz_lookExs E l)
end
mutual
theorem nz_lookSt (E : Env) : ∀ e, Nz (lookSt E e)
 | .nil => by rw [lookSt]; exact .none
 | .assign n p e => by rw [lookSt]; exact (nz_assignF _ _ _).or (nz_lookEx E e)
 | .put n p i e => by rw [lookSt]; exact ((nz_wantF _ _ _ _).or (nz_lookEx E i)).or (nz_lookEx E e)
 | .proc n p args => by rw [lookSt]; exact (nz_callF _ _ _ _ _).or (nz_lookExs E args)
 | .ite c t f => by rw [lookSt]; exact ((nz_lookEx E c).or (nz_lookSt E t)).or (nz_lookSt E f)
 | .loop c b => by rw [lookSt]; exact (nz_lookEx E c).or (nz_lookSt E b)
 | .block l => by rw [lookSt]; exact nz_lookSts E l
 | .write e => by rw [lookSt]; exact nz_lookEx E e
 | .read n p => by rw [lookSt]; exact nz_wantF _ _ _ _
theorem nz_lookSts (E : Env) : ∀ l, Nz (lookSts E l)
 | [] => by rw [lookSts]; exact .none
 | e :: l => by rw [lookSts]; exact (nz_lookSt E e).or (nz_lookSts E l)
end
section
variable (T : List Tok)
end
section
variable {T : List Tok}
theorem cur_in {s : PS} (hg : Good T s) : cur T s ∈ T := by
 unfold cur; rw [List.getD_eq_getElem?_getD, List.getElem?_eq_getElem hg]; exact List.getElem_mem hg
theorem bsl' (l : List UInt8) : (bs l).toList = l := by rw [Lib.toList_data]; rfl
theorem want_ok {x : ByteArray} {r : PS} (h : (want T x r).code = 0) : r.code = 0 /\ sees T x r = true /\ want T x r = adv r := by
 unfold want at *
 split at h
 ·rename_i hs; exact ⟨h, hs, by rw [if_pos hs]⟩
 ·exfalso
  unfold fails at h
  simp only at h
  split at h
  ·cases h
  ·rename_i hc; exact hc h
theorem sm_code {α : Type} {pf : PS -> α × PS} (hS : SM T pf) {r : PS} (hs : Stk T r) (h : (pf r).2.code = 0) : r.code = 0 := by
 by_cases hc : r.code = 0
 ·exact hc
 ·rw [(hS r hs).2 hc] at h; exact h
theorem stk0 {s : PS} (h : s.code = 0) : Stk T s := fun hc => absurd h hc
variable (hT : Toks T) {E : Env}
include hT
theorem any_good {fs : List ByteArray} (hne : ∀ f ∈ fs, f.toList ≠ []) {s : PS} (hg : Good T s) (h : seesAny T fs s = true) : Good T (adv s) := by
 obtain ⟨f, hf, hs⟩ := List.any_eq_true.1 h
 exact good_adv hT hg hs (hne f hf)
theorem chainLoop_code {pf : PS -> Ex × PS} (hS : SM T pf) {fs : List ByteArray} (hne : ∀ f ∈ fs, f.toList ≠ []) {n : Nat} {l : Ex} {s : PS} (hs : Stk T s) (h : (chainLoop T pf fs n l s).2.code = 0) : s.code = 0 := by
 by_cases hc : s.code = 0
 ·exact hc
 ·rw [(sm_chainLoop hT hS hne n l s hs).2 hc] at h; exact h
theorem argsLoop_code {pf : PS -> Ex × PS} (hS : SM T pf) {n : Nat} {l : List Ex} {s : PS} (hs : Stk T s) (h : (argsLoop T pf n l s).2.code = 0) : s.code = 0 := by
 by_cases hc : s.code = 0
 ·exact hc
 ·rw [(sm_argsLoop hT hS n l s hs).2 hc] at h; exact h
end
section
variable {T : List Tok} {E : Env}
variable (hT : Toks T)
include hT
end
section
variable {T : List Tok} {E : Env} (hT : Toks T)
include hT
omit hT in
theorem listLoop_one {st : PS -> St × PS} (n : Nat) (l : List St) (s : PS) : listLoop T st (n + 1) l s = if sees T (bs [59]) (listOne T st s).2 then listLoop T st n (l ++ (listOne T st s).1) (adv (listOne T st s).2) else (l ++ (listOne T st s).1, (listOne T st s).2) := by rw [listLoop]
end
def declF (E : Env) (here : Bool) (n : ByteArray) (p kind args : Nat) : Env × Option (Nat × Nat) :=
 if (findLast (E.row here) n).isSome then (E, some (6, p)) else (E.add here ⟨n, kind, args⟩, none)
def lookNames (E : Env) : List (ByteArray × Nat) -> Env × Option (Nat × Nat)
 | [] => (E, none)
 | x :: l => ((lookNames (declF E true x.1 x.2 0 0).1 l).1, (declF E true x.1 x.2 0 0).2.or (lookNames (declF E true x.1 x.2 0 0).1 l).2)
def manyF (n p : Nat) : Option (Nat × Nat) := if 4 < n then some (7, p) else none
def sizeF (n p : Nat) : Option (Nat × Nat) := if n < 1 ∨ 20 < n then some (3, p) else none
def lookHead (E : Env) (kind : Nat) (r : Ro) : Env × Option (Nat × Nat) :=
 ((lookNames (declF E false r.name.1 r.name.2 kind r.params.length).1 r.params).1,
  ((declF E false r.name.1 r.name.2 kind r.params.length).2.or (manyF r.params.length r.name.2)).or (lookNames (declF E false r.name.1 r.name.2 kind r.params.length).1 r.params).2)
def lookRo (E : Env) (kind : Nat) (r : Ro) : Env × Option (Nat × Nat) :=
 ((lookNames (lookHead E kind r).1 r.locals).1.leave,
  ((lookHead E kind r).2.or (lookNames (lookHead E kind r).1 r.locals).2).or (lookSts (lookNames (lookHead E kind r).1 r.locals).1.enter r.body))
def lookGl (E : Env) : Gl -> Env × Option (Nat × Nat)
 | .var n p => declF E false n p 0 0
 | .arr n p size at_ => ((declF E false n p 1 0).1, (declF E false n p 1 0).2.or (sizeF size at_))
 | .proc r => lookRo E 2 r
 | .func r => lookRo E 3 r
def lookGls (E : Env) : List Gl -> Env × Option (Nat × Nat)
 | [] => (E, none)
 | g :: l => ((lookGls (lookGl E g).1 l).1, (lookGl E g).2.or (lookGls (lookGl E g).1 l).2)
def lookPr (E : Env) (p : Pr) : Option (Nat × Nat) := (lookGls E p.globals).2.or (lookSts (lookGls E p.globals).1 p.body)
theorem nz_declF (E : Env) (here : Bool) (n : ByteArray) (p kind args : Nat) : Nz (declF E here n p kind args).2 := by
 unfold declF; split
 ·intro x hx; cases hx; simp
 ·exact .none
theorem nz_manyF (n p : Nat) : Nz (manyF n p) := by
 unfold manyF; split
 ·intro x hx; cases hx; simp
 ·exact .none
theorem nz_sizeF (n p : Nat) : Nz (sizeF n p) := by
 unfold sizeF; split
 ·intro x hx; cases hx; simp
 ·exact .none
theorem nz_lookNames : ∀ (l : List (ByteArray × Nat)) (E : Env), Nz (lookNames E l).2
 | [], _ => .none
 | _ :: l, _ => (nz_declF _ _ _ _ _ _).or (nz_lookNames l _)
theorem nz_lookHead (E : Env) (kind : Nat) (r : Ro) : Nz (lookHead E kind r).2 := ((nz_declF _ _ _ _ _ _).or (nz_manyF _ _)).or (nz_lookNames _ _)
theorem nz_lookRo (E : Env) (kind : Nat) (r : Ro) : Nz (lookRo E kind r).2 := ((nz_lookHead E kind r).or (nz_lookNames _ _)).or (nz_lookSts _ _)
theorem nz_lookGl (E : Env) (g : Gl) : Nz (lookGl E g).2 := by
 cases g with
 | var n p => exact nz_declF _ _ _ _ _ _
 | arr n p a b => exact (nz_declF _ _ _ _ _ _).or (nz_sizeF _ _)
 | proc r => exact nz_lookRo _ _ _
 | func r => exact nz_lookRo _ _ _
theorem nz_lookGls : ∀ (l : List Gl) (E : Env), Nz (lookGls E l).2
 | [], _ => .none
 | _ :: l, _ => (nz_lookGl _ _).or (nz_lookGls l _)
section
variable {T : List Tok} {E : Env}
theorem name_live {s : PS} (h : (nameP T s).2.code = 0) : s.code = 0 /\ kindIs T .name s = true /\ nameP T s = (((cur T s).text, (cur T s).pos), adv s) := by
 unfold nameP at *
 split at h
 ·rename_i hk; exact ⟨h, hk, by rw [if_pos hk]⟩
 ·exfalso
  unfold fails at h
  simp only at h
  split at h
  ·cases h
  ·rename_i hc; exact hc h
theorem num_live {s : PS} (h : (numP T s).2.code = 0) : s.code = 0 /\ numP T s = (((cur T s).val, (cur T s).pos), adv s) := by
 unfold numP at *
 split at h
 ·rename_i hk; exact ⟨h, by rw [if_pos hk]⟩
 ·exfalso
  unfold fails at h
  simp only at h
  split at h
  ·cases h
  ·rename_i hc; exact hc h
variable (hT : Toks T)
include hT
omit hT in
theorem or_none {a b : Option (Nat × Nat)} (h : a.or b = none) : a = none /\ b = none := by
 cases a with
 | none => exact ⟨rfl, by simpa using h⟩
 | some x => cases h
theorem itemsLoop_code : ∀ {n : Nat} {l : List Gl} {s : PS}, Good T s -> Stk T s -> (itemsLoop T n l s).2.code = 0 -> s.code = 0 := by
 intro n l s hg hs h
 have e := itemsLoopN_none (T := T) n l s
 exact (go2_itemsLoopN hT n none s hg hs).code (by rw [e]; exact h)
theorem go2_itemP {s : PS} (hg : Good T s) (hs : Stk T s) : Go2 T s (itemP T s).2 := by
 have := go2_itemN hT none hg hs
 rw [itemN_none] at this
 exact this
theorem namesLoop_code {n : Nat} {l : List (ByteArray × Nat)} {s : PS} (hg : Good T s) (hs : Stk T s) (h : (namesLoop T n l s).2.code = 0) : s.code = 0 := by
 have e := hereLoopN_none (T := T) n l s
 exact (go2_hereLoopN hT n none s hg hs).code (by rw [e]; exact h)
theorem go2_namesP {s : PS} (hg : Good T s) (hs : Stk T s) : Go2 T s (namesP T s).2 := by
 have := go2_hereN hT none hg hs
 rw [hereN_none] at this
 exact this
end
section
variable {T : List Tok} {E : Env} (hT : Toks T)
include hT
theorem localsLoop_code {n : Nat} {l : List (ByteArray × Nat)} {s : PS} (hg : Good T s) (hs : Stk T s) (h : (localsLoop T n l s).2.code = 0) : s.code = 0 := by
 have e := localsLoopN_none (T := T) n l s
 exact (go2_localsLoopN hT n none s hg hs).code (by rw [e]; exact h)
theorem go2_itemsP {s : PS} (hg : Good T s) (hs : Stk T s) : Go2 T s (itemsP T s).2 := by
 have := go2_itemsN hT none hg hs
 rw [itemsN_none] at this
 exact this
theorem go2_routineP {s : PS} (hg : Good T s) (hs : Stk T s) : Go2 T s (routineP T s).2 := by
 have := go2_routineN hT none 2 hg hs
 rw [routineN_none] at this
 exact this
theorem go2_globalsLoopN : ∀ (n : Nat) (m : Option Env) (s : PS), Good T s -> Stk T s -> Go2 T s (globalsLoopN T n m s).2
 | 0, m, s, hg, hs => .refl hg hs
 | n + 1, m, s, hg, hs => by
  rw [globalsLoopN]
  split
  ·rename_i h
   have h1 := go2_adv hT (bs_ne _ (by simp)) hg hs h
   have h2 := go2_itemsN hT m h1.good h1.stk
   exact (h1.trans h2).trans (go2_globalsLoopN n _ _ h2.good h2.stk)
  ·split
   ·rename_i h
    have h1 := go2_adv hT (bs_ne _ (by simp)) hg hs h
    have h2 := go2_routineN hT m 2 h1.good h1.stk
    exact (h1.trans h2).trans (go2_globalsLoopN n _ _ h2.good h2.stk)
   ·split
    ·rename_i h
     have h1 := go2_adv hT (bs_ne _ (by simp)) hg hs h
     have h2 := go2_routineN hT m 3 h1.good h1.stk
     exact (h1.trans h2).trans (go2_globalsLoopN n _ _ h2.good h2.stk)
    ·exact .refl hg hs
theorem globalsLoop_code {n : Nat} {l : List Gl} {s : PS} (hg : Good T s) (hs : Stk T s) (h : (globalsLoop T n l s).2.code = 0) : s.code = 0 := by
 have e := globalsLoopN_none (T := T) n l s
 exact (go2_globalsLoopN hT n none s hg hs).code (by rw [e]; exact h)
end
end Go.Proofs.YtklobognaldjpaaGreat
