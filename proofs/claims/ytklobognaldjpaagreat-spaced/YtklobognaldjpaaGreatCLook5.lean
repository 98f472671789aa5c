/- Plain functions: names looked at in the tree; brackets. Plain: where the syntax is right, the reader that looks at names stops at what is wrong first in the tree. Plain: statements: where the syntax is right, the reader that looks at names stops at what is wrong first in the tree. Plain: what is declared: where the syntax is right, the reader that looks at names stops at what is wrong first in the tree. Plain: procs, funcs, the program: where the syntax is right, the reader that looks at names stops at what is wrong first in the tree. -/
import Derived.Test.YtklobognaldjpaaGreatCNam4
namespace Go.Proofs.YtklobognaldjpaaGreat

/-- What is wrong with a name that must be of a kind. -/
def wantF (E : Env) (n : ByteArray) (p kind : Nat) : Option (Nat × Nat) := if (E.kindIx n).1 = kind then none else some (6, p)
def callF (E : Env) (n : ByteArray) (p kind many : Nat) : Option (Nat × Nat) := if (E.kindIx n).1 = kind then (if many = E.args n then none else some (7, p)) else some (6, p)
def assignF (E : Env) (n : ByteArray) (p : Nat) : Option (Nat × Nat) := if E.isRes n then none else wantF E n p 0

mutual
/-- What is wrong first with the names of an expression, and where. -/
def lookEx (E : Env) : Ex → Option (Nat × Nat)
  | .nil => none
  | .num _ => none
  | .var n p => wantF E n p 0
  | .elem n p i => (wantF E n p 1).or (lookEx E i)
  | .call n p args => (callF E n p 3 args.length).or (lookExs E args)
  | .bin _ l r => (lookEx E l).or (lookEx E r)
  | .un _ e => lookEx E e
def lookExs (E : Env) : List Ex → Option (Nat × Nat)
  | [] => none
  | e :: l => (lookEx E e).or (lookExs E l)
end

mutual
def lookSt (E : Env) : St → Option (Nat × Nat)
  | .nil => none
  | .assign n p e => (assignF E n p).or (lookEx E e)
  | .put n p i e => ((wantF E n p 1).or (lookEx E i)).or (lookEx E e)
  | .proc n p args => (callF E n p 2 args.length).or (lookExs E args)
  | .ite c t f => ((lookEx E c).or (lookSt E t)).or (lookSt E f)
  | .loop c b => (lookEx E c).or (lookSt E b)
  | .block l => lookSts E l
  | .write e => lookEx E e
  | .read n p => wantF E n p 0
def lookSts (E : Env) : List St → Option (Nat × Nat)
  | [] => none
  | e :: l => (lookSt E e).or (lookSts E l)
end

/-- What is wrong is something. -/
def Nz (f : Option (Nat × Nat)) : Prop := ∀ x, f = some x → x.1 ≠ 0

theorem Nz.none : Nz none := fun _ h => by cases h
theorem Nz.or {a b : Option (Nat × Nat)} (ha : Nz a) (hb : Nz b) : Nz (a.or b) := by
  intro x hx
  cases a with
  | none => exact hb x (by simpa using hx)
  | some y => exact ha x (by simpa using hx)
theorem nz_wantF (E : Env) (n : ByteArray) (p kind : Nat) : Nz (wantF E n p kind) := by
  intro x hx; unfold wantF at hx; split at hx
  · cases hx
  · cases hx; simp
theorem nz_callF (E : Env) (n : ByteArray) (p kind many : Nat) : Nz (callF E n p kind many) := by
  intro x hx; unfold callF at hx; split at hx
  · split at hx
    · cases hx
    · cases hx; simp
  · cases hx; simp
theorem nz_assignF (E : Env) (n : ByteArray) (p : Nat) : Nz (assignF E n p) := by
  unfold assignF; split
  · exact .none
  · exact nz_wantF _ _ _ _

mutual
theorem nz_lookEx (E : Env) : ∀ e, Nz (lookEx E e)
  | .nil => by rw [lookEx]; exact .none
  | .num _ => by rw [lookEx]; exact .none
  | .var n p => by rw [lookEx]; exact nz_wantF _ _ _ _
  | .elem n p i => by rw [lookEx]; exact (nz_wantF _ _ _ _).or (nz_lookEx E i)
  | .call n p args => by rw [lookEx]; exact (nz_callF _ _ _ _ _).or (nz_lookExs E args)
  | .bin _ l r => by rw [lookEx]; exact (nz_lookEx E l).or (nz_lookEx E r)
  | .un _ e => by rw [lookEx]; exact nz_lookEx E e
theorem nz_lookExs (E : Env) : ∀ l, Nz (lookExs E l)
  | [] => by rw [lookExs]; exact .none
  | e :: l => by rw [lookExs]; exact (nz_lookEx E e).or (nz_lookExs E l)
end

mutual
theorem nz_lookSt (E : Env) : ∀ e, Nz (lookSt E e)
  | .nil => by rw [lookSt]; exact .none
  | .assign n p e => by rw [lookSt]; exact (nz_assignF _ _ _).or (nz_lookEx E e)
  | .put n p i e => by rw [lookSt]; exact ((nz_wantF _ _ _ _).or (nz_lookEx E i)).or (nz_lookEx E e)
  | .proc n p args => by rw [lookSt]; exact (nz_callF _ _ _ _ _).or (nz_lookExs E args)
  | .ite c t f => by rw [lookSt]; exact ((nz_lookEx E c).or (nz_lookSt E t)).or (nz_lookSt E f)
  | .loop c b => by rw [lookSt]; exact (nz_lookEx E c).or (nz_lookSt E b)
  | .block l => by rw [lookSt]; exact nz_lookSts E l
  | .write e => by rw [lookSt]; exact nz_lookEx E e
  | .read n p => by rw [lookSt]; exact nz_wantF _ _ _ _
theorem nz_lookSts (E : Env) : ∀ l, Nz (lookSts E l)
  | [] => by rw [lookSts]; exact .none
  | e :: l => by rw [lookSts]; exact (nz_lookSt E e).or (nz_lookSts E l)
end

theorem lookExs_snoc (E : Env) (e : Ex) : ∀ l, lookExs E (l ++ [e]) = (lookExs E l).or (lookEx E e)
  | [] => by simp [lookExs]
  | a :: l => by
    show lookExs E (a :: (l ++ [e])) = _
    rw [lookExs, lookExs, lookExs_snoc E e l, Option.or_assoc]

theorem lookSts_append (E : Env) (k : List St) : ∀ l, lookSts E (l ++ k) = (lookSts E l).or (lookSts E k)
  | [] => by simp [lookSts]
  | a :: l => by
    show lookSts E (a :: (l ++ k)) = _
    rw [lookSts, lookSts, lookSts_append E k l, Option.or_assoc]

section
variable (T : List Tok)

/-- Where one is, if something was wrong on the way to r. -/
def after (f : Option (Nat × Nat)) (r : PS) : PS :=
  match f with
  | none => r
  | some x => stop T x.1 x.2

/-- Names and numbers are no brackets and no commas. -/
def Br : Prop := ∀ t ∈ T, t.kind = .name ∨ t.kind = .number → isOpen t = false ∧ isClose t = false ∧ isComma t = false

/-- What is read has as many brackets that open as that close, and no comma outside of them. -/
def Bal (pf : PS → Ex × PS) : Prop := ∀ s, Good T s → Stk T s → s.code = 0 → (pf s).2.code = 0 → ∀ o n, givenGo (T.drop s.next) o n = givenGo (T.drop (pf s).2.next) o n

end

section
variable {T : List Tok}

theorem drop_cur {s : PS} (hg : Good T s) : T.drop s.next = cur T s :: T.drop (s.next + 1) := by
  have h : s.next < T.length := hg
  rw [List.drop_eq_getElem_cons h]
  unfold cur
  rw [List.getD_eq_getElem?_getD, List.getElem?_eq_getElem h]; rfl

theorem cur_in {s : PS} (hg : Good T s) : cur T s ∈ T := by
  unfold cur; rw [List.getD_eq_getElem?_getD, List.getElem?_eq_getElem hg]; exact List.getElem_mem hg

theorem bsl' (l : List UInt8) : (bs l).toList = l := by rw [Lib.toList_data]; rfl

theorem text_of_sees {l : List UInt8} {s : PS} (h : sees T (bs l) s = true) : (cur T s).text.toList = l := by
  unfold sees at h
  rw [bsl'] at h
  simpa using h

theorem isOpen_eq (t : Tok) : isOpen t = ((t.text.toList == [40]) || (t.text.toList == [91])) := by unfold isOpen; rw [bsl', bsl']
theorem isClose_eq (t : Tok) : isClose t = ((t.text.toList == [41]) || (t.text.toList == [93])) := by unfold isClose; rw [bsl', bsl']
theorem isComma_eq (t : Tok) : isComma t = (t.text.toList == [44]) := by unfold isComma; rw [bsl']

/-- Neither a bracket nor a comma. -/
def plainB (l : List UInt8) : Bool := !(l == [40]) && !(l == [91]) && !(l == [41]) && !(l == [93]) && !(l == [44])

theorem given_skip {s : PS} (hg : Good T s) (h : isOpen (cur T s) = false ∧ isClose (cur T s) = false ∧ isComma (cur T s) = false) (o n : Nat) : givenGo (T.drop s.next) o n = givenGo (T.drop (s.next + 1)) o n := by
  rw [drop_cur hg, givenGo, h.1, h.2.1, h.2.2]
  simp

theorem given_sees {l : List UInt8} {s : PS} (hg : Good T s) (h : sees T (bs l) s = true) (hl : plainB l = true) (o n : Nat) : givenGo (T.drop s.next) o n = givenGo (T.drop (adv s).next) o n := by
  have e := text_of_sees h
  refine given_skip hg ?_ o n
  rw [isOpen_eq, isClose_eq, isComma_eq, e]
  simp only [plainB, Bool.and_eq_true, Bool.not_eq_true'] at hl
  obtain ⟨⟨⟨⟨h1, h2⟩, h3⟩, h4⟩, h5⟩ := hl
  rw [h1, h2, h3, h4, h5]
  exact ⟨rfl, rfl, rfl⟩

theorem given_kind (hB : Br T) {k : TK} {s : PS} (hg : Good T s) (h : kindIs T k s = true) (hk : k = .name ∨ k = .number) (o n : Nat) : givenGo (T.drop s.next) o n = givenGo (T.drop (adv s).next) o n := by
  refine given_skip hg (hB _ (cur_in hg) ?_) o n
  have : (cur T s).kind = k := by simpa [kindIs] using h
  rw [this]; exact hk

theorem given_open {l : List UInt8} {s : PS} (hg : Good T s) (h : sees T (bs l) s = true) (hl : l = [40] ∨ l = [91]) (o n : Nat) : givenGo (T.drop s.next) o n = givenGo (T.drop (adv s).next) (o + 1) n := by
  have e := text_of_sees h
  rw [drop_cur hg, givenGo]
  have : isOpen (cur T s) = true := by rw [isOpen_eq, e]; rcases hl with rfl | rfl <;> decide
  rw [this]; rfl

theorem given_close {l : List UInt8} {s : PS} (hg : Good T s) (h : sees T (bs l) s = true) (hl : l = [41] ∨ l = [93]) (o n : Nat) : givenGo (T.drop s.next) (o + 1) n = givenGo (T.drop (adv s).next) o n := by
  have e := text_of_sees h
  rw [drop_cur hg, givenGo]
  have h1 : isOpen (cur T s) = false := by rw [isOpen_eq, e]; rcases hl with rfl | rfl <;> decide
  have h2 : isClose (cur T s) = true := by rw [isClose_eq, e]; rcases hl with rfl | rfl <;> decide
  rw [h1, h2]; simp; rfl

theorem given_end {l : List UInt8} {s : PS} (hg : Good T s) (h : sees T (bs l) s = true) (hl : l = [41] ∨ l = [93]) (n : Nat) : givenGo (T.drop s.next) 0 n = n := by
  have e := text_of_sees h
  rw [drop_cur hg, givenGo]
  have h1 : isOpen (cur T s) = false := by rw [isOpen_eq, e]; rcases hl with rfl | rfl <;> decide
  have h2 : isClose (cur T s) = true := by rw [isClose_eq, e]; rcases hl with rfl | rfl <;> decide
  rw [h1, h2]; simp

theorem given_comma {s : PS} (hg : Good T s) (h : sees T (bs [44]) s = true) (o n : Nat) : givenGo (T.drop s.next) o n = givenGo (T.drop (adv s).next) o (if o = 0 then n + 1 else n) := by
  have e := text_of_sees h
  rw [drop_cur hg, givenGo]
  have h1 : isOpen (cur T s) = false := by rw [isOpen_eq, e]; decide
  have h2 : isClose (cur T s) = false := by rw [isClose_eq, e]; decide
  have h3 : isComma (cur T s) = true := by rw [isComma_eq, e]; decide
  rw [h1, h2, h3]
  by_cases ho : o = 0
  · simp [ho]; rfl
  · simp [ho]; rfl

theorem want_ok {x : ByteArray} {r : PS} (h : (want T x r).code = 0) : r.code = 0 ∧ sees T x r = true ∧ want T x r = adv r := by
  unfold want at *
  split at h
  · rename_i hs; exact ⟨h, hs, by rw [if_pos hs]⟩
  · exfalso
    unfold fails at h
    simp only at h
    split at h
    · cases h
    · rename_i hc; exact hc h

theorem sm_code {α : Type} {pf : PS → α × PS} (hS : SM T pf) {r : PS} (hs : Stk T r) (h : (pf r).2.code = 0) : r.code = 0 := by
  by_cases hc : r.code = 0
  · exact hc
  · rw [(hS r hs).2 hc] at h; exact h

theorem stk0 {s : PS} (h : s.code = 0) : Stk T s := fun hc => absurd h hc

variable (hT : Toks T) {E : Env}
include hT

theorem any_good {fs : List ByteArray} (hne : ∀ f ∈ fs, f.toList ≠ []) {s : PS} (hg : Good T s) (h : seesAny T fs s = true) : Good T (adv s) := by
  obtain ⟨f, hf, hs⟩ := List.any_eq_true.1 h
  exact good_adv hT hg hs (hne f hf)

theorem chainLoop_code {pf : PS → Ex × PS} (hS : SM T pf) {fs : List ByteArray} (hne : ∀ f ∈ fs, f.toList ≠ []) {n : Nat} {l : Ex} {s : PS} (hs : Stk T s) (h : (chainLoop T pf fs n l s).2.code = 0) : s.code = 0 := by
  by_cases hc : s.code = 0
  · exact hc
  · rw [(sm_chainLoop hT hS hne n l s hs).2 hc] at h; exact h

theorem bal_chainLoop {pf : PS → Ex × PS} (hP : Bal T pf) (hM : Mon T pf) (hS : SM T pf) {fs : List ByteArray} (hne : ∀ f ∈ fs, f.toList ≠ []) (hfs : ∀ f ∈ fs, ∃ l, f = bs l ∧ plainB l = true) :
    ∀ (n : Nat) (l : Ex) (s : PS), Good T s → s.code = 0 → (chainLoop T pf fs n l s).2.code = 0 → ∀ o k, givenGo (T.drop s.next) o k = givenGo (T.drop (chainLoop T pf fs n l s).2.next) o k
  | 0, l, s, hg, hc, h => fun o k => rfl
  | n + 1, l, s, hg, hc, h => by
    intro o k
    rw [chainLoop] at h ⊢
    by_cases hs : seesAny T fs s = true
    · rw [if_pos hs] at h ⊢
      have hga := any_good hT hne hg hs
      have hca : (adv s).code = 0 := hc
      have hr := chainLoop_code hT hS hne (hS _ (stk0 (T := T) hca)).1 h
      obtain ⟨f, hf, hsf⟩ := List.any_eq_true.1 hs
      obtain ⟨b, rfl, hb⟩ := hfs f hf
      rw [given_sees hg hsf hb, hP _ hga (stk0 hca) hca hr]
      exact bal_chainLoop hP hM hS hne hfs n _ _ (hM _ hga).1 hr h o k
    · rw [if_neg hs]

theorem bal_chain {pf : PS → Ex × PS} (hP : Bal T pf) (hM : Mon T pf) (hS : SM T pf) {fs : List ByteArray} (hne : ∀ f ∈ fs, f.toList ≠ []) (hfs : ∀ f ∈ fs, ∃ l, f = bs l ∧ plainB l = true) : Bal T (chain T pf fs) := by
  intro s hg hs hc h o n
  have hr := chainLoop_code hT hS hne (hS s hs).1 h
  rw [hP s hg hs hc hr]
  exact bal_chainLoop hT hP hM hS hne hfs _ _ _ (hM s hg).1 hr h o n

omit hT in
theorem ops_plain : (∀ f ∈ mulOps, ∃ l, f = bs l ∧ plainB l = true) ∧ (∀ f ∈ addOps, ∃ l, f = bs l ∧ plainB l = true) ∧ (∀ f ∈ testOps, ∃ l, f = bs l ∧ plainB l = true) ∧ (∀ f ∈ andOps, ∃ l, f = bs l ∧ plainB l = true) ∧ (∀ f ∈ orOps, ∃ l, f = bs l ∧ plainB l = true) := by
  refine ⟨?_, ?_, ?_, ?_, ?_⟩
  · intro f hf; simp [mulOps] at hf; rcases hf with rfl | rfl | rfl <;> exact ⟨_, rfl, by decide⟩
  · intro f hf; simp [addOps] at hf; rcases hf with rfl | rfl <;> exact ⟨_, rfl, by decide⟩
  · intro f hf; simp [testOps] at hf; rcases hf with rfl | rfl | rfl | rfl <;> exact ⟨_, rfl, by decide⟩
  · intro f hf; simp [andOps] at hf; subst hf; exact ⟨_, rfl, by decide⟩
  · intro f hf; simp [orOps] at hf; subst hf; exact ⟨_, rfl, by decide⟩

theorem bal_testP {pf : PS → Ex × PS} (hP : Bal T pf) (hM : Mon T pf) (hS : SM T pf) : Bal T (testP T pf) := by
  intro s hg hs hc h o n
  unfold testP at h ⊢
  by_cases hz : seesAny T testOps (pf s).2 = true
  · rw [if_pos hz] at h ⊢
    have hc1 := code_of_any hT (hS s hs).1 ops_ne.2.2.1 hz
    have hga := any_good hT ops_ne.2.2.1 (hM s hg).1 hz
    obtain ⟨f, hf, hsf⟩ := List.any_eq_true.1 hz
    obtain ⟨b, rfl, hb⟩ := ops_plain.2.2.1 f hf
    rw [hP s hg hs hc hc1, given_sees (hM s hg).1 hsf hb, hP _ hga (stk0 hc1) hc1 h]
  · rw [if_neg hz] at h ⊢
    exact hP s hg hs hc h o n

theorem bal_exprOf {pf : PS → Ex × PS} (hP : Bal T pf) (hM : Mon T pf) (hS : SM T pf) : Bal T (exprOf T pf) := by
  have a1 : Bal T (termOf T pf) := bal_chain hT hP hM hS ops_ne.1 ops_plain.1
  have a2 : Bal T (sumOf T pf) := bal_chain hT a1 (mon_termOf hT hM) (sm_termOf hT hS) ops_ne.2.1 ops_plain.2.1
  have a3 : Bal T (testOf T pf) := bal_testP hT a2 (mon_sumOf hT hM) (sm_sumOf hT hS)
  have a4 : Bal T (andOf T pf) := bal_chain hT a3 (mon_testOf hT hM) (sm_testOf hT hS) ops_ne.2.2.2.1 ops_plain.2.2.2.1
  exact bal_chain hT a4 (mon_andOf hT hM) (sm_andOf hT hS) ops_ne.2.2.2.2 ops_plain.2.2.2.2

theorem argsLoop_code {pf : PS → Ex × PS} (hS : SM T pf) {n : Nat} {l : List Ex} {s : PS} (hs : Stk T s) (h : (argsLoop T pf n l s).2.code = 0) : s.code = 0 := by
  by_cases hc : s.code = 0
  · exact hc
  · rw [(sm_argsLoop hT hS n l s hs).2 hc] at h; exact h

/-- Within brackets the commas do not count. -/
theorem bal_argsLoop {pf : PS → Ex × PS} (hP : Bal T pf) (hM : Mon T pf) (hS : SM T pf) :
    ∀ (n : Nat) (l : List Ex) (s : PS), Good T s → s.code = 0 → (argsLoop T pf n l s).2.code = 0 → ∀ o k, givenGo (T.drop s.next) (o + 1) k = givenGo (T.drop (argsLoop T pf n l s).2.next) (o + 1) k
  | 0, l, s, hg, hc, h => fun o k => rfl
  | n + 1, l, s, hg, hc, h => by
    intro o k
    rw [argsLoop] at h ⊢
    by_cases hs : sees T (bs [44]) s = true
    · rw [if_pos hs] at h ⊢
      have hga := good_adv hT hg hs (bs_ne _ (by simp))
      have hca : (adv s).code = 0 := hc
      have hr := argsLoop_code hT hS (hS _ (stk0 (T := T) hca)).1 h
      rw [given_comma hg hs, if_neg (by omega), hP _ hga (stk0 hca) hca hr]
      exact bal_argsLoop hP hM hS n _ _ (hM _ hga).1 hr h o k
    · rw [if_neg hs]

/-- Outside of them they do. -/
theorem many_argsLoop {pf : PS → Ex × PS} (hP : Bal T pf) (hM : Mon T pf) (hS : SM T pf) :
    ∀ (n : Nat) (l : List Ex) (s : PS), Good T s → s.code = 0 → (argsLoop T pf n l s).2.code = 0 → sees T (bs [41]) (argsLoop T pf n l s).2 = true → givenGo (T.drop s.next) 0 l.length = (argsLoop T pf n l s).1.length
  | 0, l, s, hg, hc, h, he => given_end hg he (.inl rfl) _
  | n + 1, l, s, hg, hc, h, he => by
    rw [argsLoop] at h he ⊢
    by_cases hs : sees T (bs [44]) s = true
    · rw [if_pos hs] at h he ⊢
      have hga := good_adv hT hg hs (bs_ne _ (by simp))
      have hca : (adv s).code = 0 := hc
      have hr := argsLoop_code hT hS (hS _ (stk0 (T := T) hca)).1 h
      rw [given_comma hg hs, if_pos rfl, hP _ hga (stk0 hca) hca hr]
      have := many_argsLoop hP hM hS n (l ++ [(pf (adv s)).1]) _ (hM _ hga).1 hr h he
      rw [List.length_append] at this
      exact this
    · rw [if_neg hs] at h he ⊢
      exact given_end hg he (.inl rfl) _

theorem bal_argsOf {pf : PS → Ex × PS} (hP : Bal T pf) (hM : Mon T pf) (hS : SM T pf) {s : PS} (hg : Good T s) (hc : s.code = 0) (h : (argsOf T pf s).2.code = 0) (o n : Nat) : givenGo (T.drop s.next) (o + 1) n = givenGo (T.drop (argsOf T pf s).2.next) o n := by
  unfold argsOf at h ⊢
  by_cases hs : sees T (bs [41]) s = true
  · rw [if_pos hs]
    exact given_close hg hs (.inl rfl) o n
  · rw [if_neg hs] at h ⊢
    obtain ⟨h1, h2, h3⟩ := want_ok h
    have hr := argsLoop_code hT hS (hS s (stk0 hc)).1 h1
    have hgl := (mon_argsLoop hT hM T.length [(pf s).1] _ (hM s hg).1).1
    show _ = givenGo (T.drop (want T (bs [41]) _).next) o n
    rw [h3, hP s hg (stk0 hc) hc hr, bal_argsLoop hT hP hM hS _ _ _ (hM s hg).1 hr h1, given_close hgl h2 (.inl rfl)]

/-- How many arguments a call has. -/
theorem given_args {pf : PS → Ex × PS} (hP : Bal T pf) (hM : Mon T pf) (hS : SM T pf) {s : PS} (hg : Good T (adv (adv s))) (hc : s.code = 0) (h : (argsOf T pf (adv (adv s))).2.code = 0) : givenT T s = (argsOf T pf (adv (adv s))).1.length := by
  unfold givenT
  unfold argsOf at h ⊢
  have hc2 : (adv (adv s)).code = 0 := hc
  by_cases hs : sees T (bs [41]) (adv (adv s)) = true
  · rw [if_pos hs, if_pos hs]; rfl
  · rw [if_neg hs] at h
    rw [if_neg hs, if_neg hs]
    obtain ⟨h1, h2, h3⟩ := want_ok h
    have hr := argsLoop_code hT hS (hS _ (stk0 hc2)).1 h1
    have e : T.drop (s.next + 2) = T.drop (adv (adv s)).next := rfl
    rw [e, hP _ hg (stk0 hc2) hc2 hr]
    exact many_argsLoop hT hP hM hS T.length [_] _ (hM _ hg).1 hr h1 h2

omit hT in
theorem bal_indexOf {pf : PS → Ex × PS} (hP : Bal T pf) (hM : Mon T pf) {s : PS} (hg : Good T s) (hc : s.code = 0) (h : (indexOf T pf s).2.code = 0) (o n : Nat) : givenGo (T.drop s.next) (o + 1) n = givenGo (T.drop (indexOf T pf s).2.next) o n := by
  have h' : (want T (bs [93]) (pf s).2).code = 0 := h
  obtain ⟨h1, h2, h3⟩ := want_ok h'
  show _ = givenGo (T.drop (want T (bs [93]) (pf s).2).next) o n
  rw [h3, hP s hg (stk0 hc) hc h1, given_close (hM s hg).1 h2 (.inr rfl)]

theorem bal_named {pf : PS → Ex × PS} (hB : Br T) (hP : Bal T pf) (hM : Mon T pf) (hS : SM T pf) {s : PS} (hg : Good T s) (hc : s.code = 0) (hk : kindIs T .name s = true) (h : (namedFactorN T none pf s).2.code = 0) (o n : Nat) : givenGo (T.drop s.next) o n = givenGo (T.drop (namedFactorN T none pf s).2.next) o n := by
  have hga := good_adv_kind hT hg hk (by decide)
  have hca : (adv s).code = 0 := hc
  rw [given_kind hB hg hk (.inl rfl)]
  unfold namedFactorN at h ⊢
  by_cases h1 : sees T (bs [40]) (adv s) = true
  · rw [if_pos h1] at h ⊢
    rw [given_open hga h1 (.inl rfl)]
    exact bal_argsOf hT hP hM hS (good_adv hT hga h1 (bs_ne _ (by simp))) hc h o n
  · rw [if_neg h1] at h ⊢
    by_cases h2 : sees T (bs [91]) (adv s) = true
    · rw [if_pos h2] at h ⊢
      rw [given_open hga h2 (.inr rfl)]
      exact bal_indexOf hP hM (good_adv hT hga h2 (bs_ne _ (by simp))) hc h o n
    · rw [if_neg h2]; rfl

theorem bal_factorN (hB : Br T) : ∀ k, Bal T (factorN T none k)
  | 0 => fun s hg hs hc h => by
    exfalso
    have : (fails T 5 s).code = 0 := h
    simp [fails, hc] at this
  | k + 1 => fun s hg hs hc h o n => by
    have ih := bal_factorN hB k
    have hMF := mon_factorN hT none k
    have hSF := sm_factorN hT none k
    have hX := bal_exprOf hT ih hMF hSF
    have hca : (adv s).code = 0 := hc
    rw [factorN] at h ⊢
    by_cases h1 : kindIs T .number s = true
    · rw [if_pos h1] at h ⊢
      have e : (numP T s).2 = adv s := by unfold numP; rw [if_pos h1]
      show _ = givenGo (T.drop (numP T s).2.next) o n
      rw [e]
      exact given_kind hB hg h1 (.inr rfl) o n
    · rw [if_neg h1] at h ⊢
      by_cases h2 : kindIs T .name s = true
      · rw [if_pos h2] at h ⊢
        exact bal_named hT hB hX (mon_exprOf hT hMF) (sm_exprOf hT hSF) hg hc h2 h o n
      · rw [if_neg h2] at h ⊢
        by_cases h3 : sees T (bs [40]) s = true
        · rw [if_pos h3] at h ⊢
          have hga := good_adv hT hg h3 (bs_ne _ (by simp))
          obtain ⟨c1, c2, c3⟩ := want_ok h
          show _ = givenGo (T.drop (want T (bs [41]) _).next) o n
          rw [c3, given_open hg h3 (.inl rfl), hX _ hga (stk0 hca) hca c1, given_close (mon_exprOf hT hMF _ hga).1 c2 (.inl rfl)]
        · rw [if_neg h3] at h ⊢
          by_cases h4 : sees T (bs [45]) s = true
          · rw [if_pos h4] at h ⊢
            have hga := good_adv hT hg h4 (bs_ne _ (by simp))
            rw [given_sees hg h4 (by decide)]
            exact ih _ hga (stk0 hca) hca h o n
          · rw [if_neg h4] at h ⊢
            by_cases h5 : sees T (bs [110, 111, 116]) s = true
            · rw [if_pos h5] at h ⊢
              have hga := good_adv hT hg h5 (bs_ne _ (by simp))
              rw [given_sees hg h5 (by decide)]
              exact ih _ hga (stk0 hca) hca h o n
            · rw [if_neg h5] at h
              exfalso
              have : (fails T 4 s).code = 0 := h
              simp [fails, hc] at this

theorem bal_exprN (hB : Br T) (k : Nat) : Bal T (exprN T none k) := bal_exprOf hT (bal_factorN hT hB k) (mon_factorN hT none k) (sm_factorN hT none k)

end

end Go.Proofs.YtklobognaldjpaaGreat

namespace Go.Proofs.YtklobognaldjpaaGreat

section
variable {T : List Tok} {E : Env}

/-- Reading with names, against reading without, and a look at the tree. -/
def Rel (T : List Tok) (E : Env) (pf pn : PS → Ex × PS) : Prop := ∀ s, Good T s → s.code = 0 → (pf s).2.code = 0 → (pn s).2 = after T (lookEx E (pf s).1) (pf s).2
def RelS (T : List Tok) (E : Env) (pf pn : PS → St × PS) : Prop := ∀ s, Good T s → s.code = 0 → (pf s).2.code = 0 → (pn s).2 = after T (lookSt E (pf s).1) (pf s).2

theorem after_none (r : PS) : after T none r = r := rfl
theorem stk_after {f : Option (Nat × Nat)} {r : PS} (hr : r.code = 0) : Stk T (after T f r) := by
  unfold after
  split
  · exact stk0 hr
  · exact fun _ => rfl
theorem after_or (f g : Option (Nat × Nat)) (r : PS) : after T (f.or g) r = match f with
  | none => after T g r
  | some x => stop T x.1 x.2 := by cases f <;> rfl

variable (hT : Toks T)
include hT

omit hT in
/-- Whatever stands still behind what is wrong goes over it. -/
theorem still_after {α : Type} {pn : PS → α × PS} (hS : SM T pn) {x : Nat × Nat} (hx : x.1 ≠ 0) : (pn (stop T x.1 x.2)).2 = stop T x.1 x.2 := (hS _ (fun _ => rfl)).2 hx

omit hT in
theorem Rel.on {pf pn : PS → Ex × PS} (hR : Rel T E pf pn) (hS : SM T pn) {f : Option (Nat × Nat)} (hf : Nz f) {r : PS} (hg : Good T r) (hc : r.code = 0) (h2 : (pf r).2.code = 0) : (pn (after T f r)).2 = after T (f.or (lookEx E (pf r).1)) (pf r).2 := by
  cases f with
  | none => exact hR r hg hc h2
  | some x => exact still_after hS (hf x rfl)

omit hT in
theorem RelS.on {pf pn : PS → St × PS} (hR : RelS T E pf pn) (hS : SM T pn) {f : Option (Nat × Nat)} (hf : Nz f) {r : PS} (hg : Good T r) (hc : r.code = 0) (h2 : (pf r).2.code = 0) : (pn (after T f r)).2 = after T (f.or (lookSt E (pf r).1)) (pf r).2 := by
  cases f with
  | none => exact hR r hg hc h2
  | some x => exact still_after hS (hf x rfl)

theorem want_after {b : ByteArray} (hb : b.toList ≠ []) {f : Option (Nat × Nat)} (hf : Nz f) (r : PS) : want T b (after T f r) = after T f (want T b r) := by
  cases f with
  | none => rfl
  | some x => exact (sm_want hT hb (fun _ => rfl)).2 (hf x rfl)

theorem sees_after {b : ByteArray} (hb : b.toList ≠ []) {f : Option (Nat × Nat)} (hf : Nz f) (r : PS) : sees T b (after T f r) = (f.isNone && sees T b r) := by
  cases f with
  | none => rfl
  | some x => exact sees_stuck hT (fun _ => rfl) (hf x rfl) hb

theorem rel_chainLoop {pf pn : PS → Ex × PS} (hR : Rel T E pf pn) (hM : Mon T pf) (hS : SM T pf) (hN : SM T pn) {fs : List ByteArray} (hne : ∀ f ∈ fs, f.toList ≠ []) :
    ∀ (n : Nat) (l l' : Ex) (s : PS), Good T s → s.code = 0 → (chainLoop T pf fs n l s).2.code = 0 → ∃ X, Nz X ∧ lookEx E (chainLoop T pf fs n l s).1 = (lookEx E l).or X ∧ (chainLoop T pn fs n l' s).2 = after T X (chainLoop T pf fs n l s).2
  | 0, l, l', s, hg, hc, h => ⟨none, .none, by simp [chainLoop], rfl⟩
  | n + 1, l, l', s, hg, hc, h => by
    rw [chainLoop] at h
    rw [chainLoop, chainLoop]
    by_cases hs : seesAny T fs s = true
    · rw [if_pos hs] at h
      rw [if_pos hs, if_pos hs]
      have hga := any_good hT hne hg hs
      have hca : (adv s).code = 0 := hc
      have hr := chainLoop_code hT hS hne (hS _ (stk0 (T := T) hca)).1 h
      have e := hR _ hga hca hr
      obtain ⟨X, hX, h1, h2⟩ := rel_chainLoop hR hM hS hN hne n (.bin (cur T s).text l (pf (adv s)).1) (.bin (cur T s).text l' (pn (adv s)).1) (pf (adv s)).2 (hM _ hga).1 hr h
      refine ⟨(lookEx E (pf (adv s)).1).or X, (nz_lookEx E _).or hX, ?_, ?_⟩
      · rw [h1, lookEx, Option.or_assoc]
      · rw [e]
        cases hl : lookEx E (pf (adv s)).1 with
        | none => rw [hl] at e; rw [after_none, h2]; rfl
        | some x =>
          show (chainLoop T pn fs n _ (stop T x.1 x.2)).2 = stop T x.1 x.2
          exact (sm_chainLoop hT hN hne n _ _ (fun _ => rfl)).2 (nz_lookEx E _ x hl)
    · rw [if_neg hs, if_neg hs]
      exact ⟨none, .none, by simp, rfl⟩

theorem rel_chain {pf pn : PS → Ex × PS} (hR : Rel T E pf pn) (hM : Mon T pf) (hS : SM T pf) (hN : SM T pn) {fs : List ByteArray} (hne : ∀ f ∈ fs, f.toList ≠ []) : Rel T E (chain T pf fs) (chain T pn fs) := by
  intro s hg hc h
  have hr := chainLoop_code hT hS hne (hS s (stk0 hc)).1 h
  have e := hR s hg hc hr
  obtain ⟨X, hX, h1, h2⟩ := rel_chainLoop hT hR hM hS hN hne T.length (pf s).1 (pn s).1 (pf s).2 (hM s hg).1 hr h
  show (chainLoop T pn fs T.length (pn s).1 (pn s).2).2 = after T (lookEx E (chainLoop T pf fs T.length (pf s).1 (pf s).2).1) (chainLoop T pf fs T.length (pf s).1 (pf s).2).2
  rw [h1, e]
  cases hl : lookEx E (pf s).1 with
  | none => rw [after_none, h2]; rfl
  | some x => exact (sm_chainLoop hT hN hne _ _ _ (fun _ => rfl)).2 (nz_lookEx E _ x hl)

theorem rel_testP {pf pn : PS → Ex × PS} (hR : Rel T E pf pn) (hM : Mon T pf) (hS : SM T pf) : Rel T E (testP T pf) (testP T pn) := by
  intro s hg hc h
  have hs := stk0 (T := T) hc
  unfold testP at h ⊢
  by_cases hz : seesAny T testOps (pf s).2 = true
  · rw [if_pos hz] at h ⊢
    have hc1 := code_of_any hT (hS s hs).1 ops_ne.2.2.1 hz
    have hga := any_good hT ops_ne.2.2.1 (hM s hg).1 hz
    have e := hR s hg hc hc1
    show _ = after T (lookEx E (.bin _ (pf s).1 (pf (adv (pf s).2)).1)) _
    rw [lookEx]
    cases hl : lookEx E (pf s).1 with
    | none =>
      rw [hl, after_none] at e
      rw [e, if_pos hz]
      exact hR _ hga hc1 h
    | some x =>
      rw [hl] at e
      have hx := nz_lookEx E _ x hl
      have e2 : (pn s).2 = stop T x.1 x.2 := e
      have hno : seesAny T testOps (pn s).2 = false := by
        rw [e2]
        cases hh : seesAny T testOps (stop T x.1 x.2) with
        | false => rfl
        | true => exact absurd (code_of_any hT (fun _ => rfl) ops_ne.2.2.1 hh) hx
      rw [if_neg (by rw [hno]; simp), e2]; rfl
  · rw [if_neg hz] at h
    have e := hR s hg hc h
    rw [if_neg hz]
    have hno : ¬ seesAny T testOps (pn s).2 = true := by
      rw [e]
      cases hl : lookEx E (pf s).1 with
      | none => exact hz
      | some x => intro hh; exact nz_lookEx E _ x hl (code_of_any hT (fun _ => rfl) ops_ne.2.2.1 hh)
    rw [if_neg hno]
    exact e

theorem rel_exprOf {pf pn : PS → Ex × PS} (hR : Rel T E pf pn) (hM : Mon T pf) (hS : SM T pf) (hN : SM T pn) : Rel T E (exprOf T pf) (exprOf T pn) := by
  have a1 : Rel T E (termOf T pf) (termOf T pn) := rel_chain hT hR hM hS hN ops_ne.1
  have a2 : Rel T E (sumOf T pf) (sumOf T pn) := rel_chain hT a1 (mon_termOf hT hM) (sm_termOf hT hS) (sm_termOf hT hN) ops_ne.2.1
  have a3 : Rel T E (testOf T pf) (testOf T pn) := rel_testP hT a2 (mon_sumOf hT hM) (sm_sumOf hT hS)
  have a4 : Rel T E (andOf T pf) (andOf T pn) := rel_chain hT a3 (mon_testOf hT hM) (sm_testOf hT hS) (sm_testOf hT hN) ops_ne.2.2.2.1
  exact rel_chain hT a4 (mon_andOf hT hM) (sm_andOf hT hS) (sm_andOf hT hN) ops_ne.2.2.2.2

theorem rel_argsLoop {pf pn : PS → Ex × PS} (hR : Rel T E pf pn) (hM : Mon T pf) (hS : SM T pf) (hN : SM T pn) :
    ∀ (n : Nat) (l l' : List Ex) (s : PS), Good T s → s.code = 0 → (argsLoop T pf n l s).2.code = 0 → ∃ X, Nz X ∧ lookExs E (argsLoop T pf n l s).1 = (lookExs E l).or X ∧ (argsLoop T pn n l' s).2 = after T X (argsLoop T pf n l s).2
  | 0, l, l', s, hg, hc, h => ⟨none, .none, by simp [argsLoop], rfl⟩
  | n + 1, l, l', s, hg, hc, h => by
    rw [argsLoop] at h
    rw [argsLoop, argsLoop]
    by_cases hs : sees T (bs [44]) s = true
    · rw [if_pos hs] at h
      rw [if_pos hs, if_pos hs]
      have hga := good_adv hT hg hs (bs_ne _ (by simp))
      have hca : (adv s).code = 0 := hc
      have hr := argsLoop_code hT hS (hS _ (stk0 (T := T) hca)).1 h
      have e := hR _ hga hca hr
      obtain ⟨X, hX, h1, h2⟩ := rel_argsLoop hR hM hS hN n (l ++ [(pf (adv s)).1]) (l' ++ [(pn (adv s)).1]) (pf (adv s)).2 (hM _ hga).1 hr h
      refine ⟨(lookEx E (pf (adv s)).1).or X, (nz_lookEx E _).or hX, ?_, ?_⟩
      · rw [h1, lookExs_snoc, Option.or_assoc]
      · rw [e]
        cases hl : lookEx E (pf (adv s)).1 with
        | none => rw [after_none, h2]; rfl
        | some x => exact (sm_argsLoop hT hN n _ _ (fun _ => rfl)).2 (nz_lookEx E _ x hl)
    · rw [if_neg hs, if_neg hs]
      exact ⟨none, .none, by simp, rfl⟩

/-- Arguments, behind whatever is wrong already. -/
theorem rel_argsOf {pf pn : PS → Ex × PS} (hR : Rel T E pf pn) (hM : Mon T pf) (hS : SM T pf) (hN : SM T pn) {f : Option (Nat × Nat)} (hf : Nz f) {s : PS} (hg : Good T s) (hc : s.code = 0) (h : (argsOf T pf s).2.code = 0) :
    (argsOf T pn (after T f s)).2 = after T (f.or (lookExs E (argsOf T pf s).1)) (argsOf T pf s).2 := by
  cases f with
  | some x => exact (sm_argsOf hT hN _ (fun _ => rfl)).2 (hf x rfl)
  | none =>
    rw [after_none]
    show _ = after T (lookExs E (argsOf T pf s).1) _
    unfold argsOf at h ⊢
    by_cases hs : sees T (bs [41]) s = true
    · rw [if_pos hs, if_pos hs]
      show adv s = after T (lookExs E []) (adv s)
      rw [lookExs]; rfl
    · rw [if_neg hs] at h
      rw [if_neg hs, if_neg hs]
      obtain ⟨h1, h2, h3⟩ := want_ok h
      have hr := argsLoop_code hT hS (hS s (stk0 hc)).1 h1
      have e := hR s hg hc hr
      obtain ⟨X, hX, e1, e2⟩ := rel_argsLoop hT hR hM hS hN T.length [(pf s).1] [(pn s).1] (pf s).2 (hM s hg).1 hr h1
      show want T (bs [41]) (argsLoop T pn T.length [(pn s).1] (pn s).2).2 = after T (lookExs E (argsLoop T pf T.length [(pf s).1] (pf s).2).1) (want T (bs [41]) (argsLoop T pf T.length [(pf s).1] (pf s).2).2)
      rw [e1, e]
      have e3 : lookExs E [(pf s).1] = lookEx E (pf s).1 := by rw [lookExs, lookExs]; simp
      rw [e3]
      cases hl : lookEx E (pf s).1 with
      | none => rw [after_none, e2, want_after hT (bs_ne _ (by simp)) hX]; rfl
      | some x =>
        have hx := nz_lookEx E _ x hl
        have e4 : (argsLoop T pn T.length [(pn s).1] (after T (some x) (pf s).2)).2 = stop T x.1 x.2 := (sm_argsLoop hT hN _ _ _ (fun _ => rfl)).2 hx
        rw [e4]
        exact (sm_want hT (bs_ne _ (by simp)) (fun _ => rfl)).2 hx

theorem rel_indexOf {pf pn : PS → Ex × PS} (hR : Rel T E pf pn) (hN : SM T pn) {f : Option (Nat × Nat)} (hf : Nz f) {s : PS} (hg : Good T s) (hc : s.code = 0) (h : (indexOf T pf s).2.code = 0) :
    (indexOf T pn (after T f s)).2 = after T (f.or (lookEx E (pf s).1)) (indexOf T pf s).2 := by
  obtain ⟨h1, _, _⟩ := want_ok (show (want T (bs [93]) (pf s).2).code = 0 from h)
  show want T (bs [93]) (pn (after T f s)).2 = after T _ (want T (bs [93]) (pf s).2)
  rw [hR.on hN hf hg hc h1, want_after hT (bs_ne _ (by simp)) (hf.or (nz_lookEx E _))]

omit hT in
theorem wantsE_after (s0 : PS) (kind : Nat) (s : PS) : wantsE T (some E) s0 kind s = after T (wantF E (cur T s0).text (cur T s0).pos kind) s := by
  unfold wantsE wantF
  simp only
  split <;> rfl

omit hT in
theorem callE_after (s0 : PS) (kind : Nat) (s : PS) : callE T (some E) s0 kind s = after T (callF E (cur T s0).text (cur T s0).pos kind (givenT T s0)) s := by
  unfold callE callF
  simp only
  split
  · split <;> rfl
  · rfl

omit hT in
theorem assignE_after (s0 : PS) (s : PS) : assignE T (some E) s0 s = after T (assignF E (cur T s0).text (cur T s0).pos) s := by
  unfold assignE assignF
  simp only
  split
  · rfl
  · exact wantsE_after s0 0 s

theorem rel_named {pf pn : PS → Ex × PS} (hP : Bal T pf) (hR : Rel T E pf pn) (hM : Mon T pf) (hS : SM T pf) (hN : SM T pn) {s : PS} (hg : Good T s) (hc : s.code = 0) (hk : kindIs T .name s = true) (h : (namedFactorN T none pf s).2.code = 0) :
    (namedFactorN T (some E) pn s).2 = after T (lookEx E (namedFactorN T none pf s).1) (namedFactorN T none pf s).2 := by
  have hga := good_adv_kind hT hg hk (by decide)
  unfold namedFactorN at h ⊢
  by_cases h1 : sees T (bs [40]) (adv s) = true
  · rw [if_pos h1] at h
    rw [if_pos h1, if_pos h1]
    have hgaa := good_adv hT hga h1 (bs_ne _ (by simp))
    show (argsOf T pn (callE T (some E) s 3 (adv (adv s)))).2 = after T (lookEx E (.call _ _ (argsOf T pf (adv (adv s))).1)) (argsOf T pf (adv (adv s))).2
    rw [callE_after, given_args hT hP hM hS hgaa hc h, lookEx]
    exact rel_argsOf hT hR hM hS hN (nz_callF _ _ _ _ _) hgaa hc h
  · rw [if_neg h1] at h
    rw [if_neg h1, if_neg h1]
    by_cases h2 : sees T (bs [91]) (adv s) = true
    · rw [if_pos h2] at h
      rw [if_pos h2, if_pos h2]
      have hgaa := good_adv hT hga h2 (bs_ne _ (by simp))
      show (indexOf T pn (wantsE T (some E) s 1 (adv (adv s)))).2 = after T (lookEx E (.elem _ _ (pf (adv (adv s))).1)) (indexOf T pf (adv (adv s))).2
      rw [wantsE_after, lookEx]
      exact rel_indexOf hT hR hN (nz_wantF _ _ _ _) hgaa hc h
    · rw [if_neg h2, if_neg h2]
      show wantsE T (some E) s 0 (adv s) = after T (lookEx E (.var _ _)) (adv s)
      rw [wantsE_after, lookEx]

theorem rel_factorN (hB : Br T) : ∀ k, Rel T E (factorN T none k) (factorN T (some E) k)
  | 0 => fun s hg hc h => by
    exfalso
    have : (fails T 5 s).code = 0 := h
    simp [fails, hc] at this
  | k + 1 => fun s hg hc h => by
    have ih := rel_factorN hB k
    have hMF := mon_factorN hT none k
    have hSF := sm_factorN hT none k
    have hNF := sm_factorN hT (some E) k
    have hX := rel_exprOf hT ih hMF hSF hNF
    have hca : (adv s).code = 0 := hc
    rw [factorN] at h
    rw [factorN, factorN]
    by_cases h1 : kindIs T .number s = true
    · rw [if_pos h1, if_pos h1]
      show (numP T s).2 = after T (lookEx E (.num _)) (numP T s).2
      rw [lookEx]; rfl
    · rw [if_neg h1] at h
      rw [if_neg h1, if_neg h1]
      by_cases h2 : kindIs T .name s = true
      · rw [if_pos h2] at h
        rw [if_pos h2, if_pos h2]
        exact rel_named hT (bal_exprN hT hB k) hX (mon_exprOf hT hMF) (sm_exprOf hT hSF) (sm_exprOf hT hNF) hg hc h2 h
      · rw [if_neg h2] at h
        rw [if_neg h2, if_neg h2]
        by_cases h3 : sees T (bs [40]) s = true
        · rw [if_pos h3] at h
          rw [if_pos h3, if_pos h3]
          have hga := good_adv hT hg h3 (bs_ne _ (by simp))
          obtain ⟨c1, _, _⟩ := want_ok h
          show want T (bs [41]) (exprOf T (factorN T (some E) k) (adv s)).2 = after T _ (want T (bs [41]) _)
          rw [hX _ hga hca c1, want_after hT (bs_ne _ (by simp)) (nz_lookEx E _)]
        · rw [if_neg h3] at h
          rw [if_neg h3, if_neg h3]
          by_cases h4 : sees T (bs [45]) s = true
          · rw [if_pos h4] at h
            rw [if_pos h4, if_pos h4]
            have hga := good_adv hT hg h4 (bs_ne _ (by simp))
            show _ = after T (lookEx E (.un _ _)) _
            rw [lookEx]
            exact ih _ hga hca h
          · rw [if_neg h4] at h
            rw [if_neg h4, if_neg h4]
            by_cases h5 : sees T (bs [110, 111, 116]) s = true
            · rw [if_pos h5] at h
              rw [if_pos h5, if_pos h5]
              have hga := good_adv hT hg h5 (bs_ne _ (by simp))
              show _ = after T (lookEx E (.un _ _)) _
              rw [lookEx]
              exact ih _ hga hca h
            · rw [if_neg h5] at h
              exfalso
              have : (fails T 4 s).code = 0 := h
              simp [fails, hc] at this

theorem rel_exprN (hB : Br T) (k : Nat) : Rel T E (exprN T none k) (exprN T (some E) k) := rel_exprOf hT (rel_factorN hT hB k) (mon_factorN hT none k) (sm_factorN hT none k) (sm_factorN hT (some E) k)

end

end Go.Proofs.YtklobognaldjpaaGreat

namespace Go.Proofs.YtklobognaldjpaaGreat

section
variable {T : List Tok} {E : Env} (hT : Toks T)
include hT

theorem rel_namedSt {pf pn : PS → Ex × PS} (hP : Bal T pf) (hR : Rel T E pf pn) (hM : Mon T pf) (hS : SM T pf) (hN : SM T pn) {s : PS} (hg : Good T s) (hc : s.code = 0) (hk : kindIs T .name s = true) (h : (namedStN T none pf s).2.code = 0) :
    (namedStN T (some E) pn s).2 = after T (lookSt E (namedStN T none pf s).1) (namedStN T none pf s).2 := by
  have hga := good_adv_kind hT hg hk (by decide)
  unfold namedStN at h ⊢
  by_cases h1 : sees T (bs [40]) (adv s) = true
  · rw [if_pos h1] at h
    rw [if_pos h1, if_pos h1]
    have hgaa := good_adv hT hga h1 (bs_ne _ (by simp))
    show (argsOf T pn (callE T (some E) s 2 (adv (adv s)))).2 = after T (lookSt E (.proc _ _ (argsOf T pf (adv (adv s))).1)) (argsOf T pf (adv (adv s))).2
    rw [callE_after, given_args hT hP hM hS hgaa hc h, lookSt]
    exact rel_argsOf hT hR hM hS hN (nz_callF _ _ _ _ _) hgaa hc h
  · rw [if_neg h1] at h
    rw [if_neg h1, if_neg h1]
    by_cases h2 : sees T (bs [91]) (adv s) = true
    · rw [if_pos h2] at h
      rw [if_pos h2, if_pos h2]
      have hgaa := good_adv hT hga h2 (bs_ne _ (by simp))
      have hi := mon_indexOf hT hM _ hgaa
      have hc1 := sm_code hS (sm_want hT (f := bs [58, 61]) (bs_ne _ (by simp)) (sm_indexOf hT hS _ (stk0 (T := T) (show (adv (adv s)).code = 0 from hc))).1).1 h
      obtain ⟨c1, _, _⟩ := want_ok hc1
      have hgw := (mon_want hT (f := bs [58, 61]) (bs_ne _ (by simp)) hi.1).1
      show (pn (want T (bs [58, 61]) (indexOf T pn (wantsE T (some E) s 1 (adv (adv s)))).2)).2 = after T (lookSt E (.put _ _ (pf (adv (adv s))).1 (pf (want T (bs [58, 61]) (indexOf T pf (adv (adv s))).2)).1)) (pf (want T (bs [58, 61]) (indexOf T pf (adv (adv s))).2)).2
      rw [wantsE_after, lookSt, rel_indexOf hT hR hN (nz_wantF _ _ _ _) hgaa hc c1, want_after hT (bs_ne _ (by simp)) ((nz_wantF _ _ _ _).or (nz_lookEx E _))]
      exact hR.on hN ((nz_wantF _ _ _ _).or (nz_lookEx E _)) hgw hc1 h
    · rw [if_neg h2] at h
      rw [if_neg h2, if_neg h2]
      by_cases h3 : sees T (bs [58, 61]) (adv s) = true
      · rw [if_pos h3] at h
        rw [if_pos h3, if_pos h3]
        have hgaa := good_adv hT hga h3 (bs_ne _ (by simp))
        show (pn (assignE T (some E) s (adv (adv s)))).2 = after T (lookSt E (.assign _ _ (pf (adv (adv s))).1)) (pf (adv (adv s))).2
        rw [assignE_after, lookSt]
        exact hR.on hN (nz_assignF _ _ _) hgaa hc h
      · rw [if_neg h3] at h
        exfalso
        have h9 := sm_code hS (stk_fails 4 (adv s)) h
        have hca : (adv s).code = 0 := hc
        simp [fails, hca] at h9

theorem rel_choice {pf pn : PS → Ex × PS} (hR : Rel T E pf pn) (hM : Mon T pf) (hS : SM T pf) {st sn : PS → St × PS} (hRS : RelS T E st sn) (hMS : Mon T st) (hSS : SM T st) (hNS : SM T sn)
    {s : PS} (hg : Good T s) (hc : s.code = 0) (h : (choiceSt T pf st s).2.code = 0) : (choiceSt T pn sn s).2 = after T (lookSt E (choiceSt T pf st s).1) (choiceSt T pf st s).2 := by
  have hs := stk0 (T := T) hc
  have m1 := hM s hg
  have s1 := hS s hs
  have m2 := mon_want hT (f := bs [116, 104, 101, 110]) (bs_ne _ (by simp)) m1.1
  have s2 := sm_want hT (f := bs [116, 104, 101, 110]) (bs_ne _ (by simp)) s1.1
  have m3 := hMS _ m2.1
  have s3 := hSS _ s2.1
  -- nothing is wrong behind then
  have c3 : (st (want T (bs [116, 104, 101, 110]) (pf s).2)).2.code = 0 := by
    unfold choiceSt at h
    split at h
    · rename_i hz; exact code_of_sees hT s3.1 (bs_ne _ (by simp)) hz
    · exact h
  have c2 := sm_code hSS s2.1 c3
  obtain ⟨c1, _, _⟩ := want_ok c2
  have e1 : (pn s).2 = after T (lookEx E (pf s).1) (pf s).2 := hR s hg hc c1
  have e2 : want T (bs [116, 104, 101, 110]) (pn s).2 = after T (lookEx E (pf s).1) (want T (bs [116, 104, 101, 110]) (pf s).2) := by rw [e1, want_after hT (bs_ne _ (by simp)) (nz_lookEx E _)]
  have e3 : (sn (want T (bs [116, 104, 101, 110]) (pn s).2)).2 = after T ((lookEx E (pf s).1).or (lookSt E (st (want T (bs [116, 104, 101, 110]) (pf s).2)).1)) (st (want T (bs [116, 104, 101, 110]) (pf s).2)).2 := by
    rw [e2]; exact hRS.on hNS (nz_lookEx E _) m2.1 c2 c3
  have nz := (nz_lookEx E (pf s).1).or (nz_lookSt E (st (want T (bs [116, 104, 101, 110]) (pf s).2)).1)
  unfold choiceSt at h ⊢
  by_cases hz : sees T (bs [101, 108, 115, 101]) (st (want T (bs [116, 104, 101, 110]) (pf s).2)).2 = true
  · rw [if_pos hz] at h
    rw [if_pos hz]
    have hga := good_adv hT m3.1 hz (bs_ne _ (by simp))
    have hca : (adv (st (want T (bs [116, 104, 101, 110]) (pf s).2)).2).code = 0 := c3
    show _ = after T (lookSt E (.ite (pf s).1 (st (want T (bs [116, 104, 101, 110]) (pf s).2)).1 (st (adv (st (want T (bs [116, 104, 101, 110]) (pf s).2)).2)).1)) (st (adv (st (want T (bs [116, 104, 101, 110]) (pf s).2)).2)).2
    rw [lookSt]
    cases hl : (lookEx E (pf s).1).or (lookSt E (st (want T (bs [116, 104, 101, 110]) (pf s).2)).1) with
    | none =>
      rw [hl, after_none] at e3
      have hz2 : sees T (bs [101, 108, 115, 101]) (sn (want T (bs [116, 104, 101, 110]) (pn s).2)).2 = true := by rw [e3]; exact hz
      rw [if_pos hz2]
      show (sn (adv (sn (want T (bs [116, 104, 101, 110]) (pn s).2)).2)).2 = after T (lookSt E _) _
      rw [e3]
      exact hRS _ hga hca h
    | some x =>
      rw [hl] at nz e3
      have hno : ¬ sees T (bs [101, 108, 115, 101]) (sn (want T (bs [116, 104, 101, 110]) (pn s).2)).2 = true := by
        rw [e3, sees_after hT (bs_ne _ (by simp)) nz]; simp
      rw [if_neg hno]
      exact e3
  · rw [if_neg hz]
    show _ = after T (lookSt E (.ite (pf s).1 (st (want T (bs [116, 104, 101, 110]) (pf s).2)).1 .nil)) (st (want T (bs [116, 104, 101, 110]) (pf s).2)).2
    have hno : ¬ sees T (bs [101, 108, 115, 101]) (sn (want T (bs [116, 104, 101, 110]) (pn s).2)).2 = true := by
      rw [e3, sees_after hT (bs_ne _ (by simp)) nz]
      simp [hz]
    rw [if_neg hno]
    show (sn (want T (bs [116, 104, 101, 110]) (pn s).2)).2 = _
    rw [e3, lookSt, lookSt]
    simp

theorem rel_while {pf pn : PS → Ex × PS} (hR : Rel T E pf pn) (hM : Mon T pf) (hS : SM T pf) {st sn : PS → St × PS} (hRS : RelS T E st sn) (hSS : SM T st) (hNS : SM T sn)
    {s : PS} (hg : Good T s) (hc : s.code = 0) (h : (whileSt T pf st s).2.code = 0) : (whileSt T pn sn s).2 = after T (lookSt E (whileSt T pf st s).1) (whileSt T pf st s).2 := by
  have hs := stk0 (T := T) hc
  have m1 := hM s hg
  have s1 := hS s hs
  have m2 := mon_want hT (f := bs [100, 111]) (bs_ne _ (by simp)) m1.1
  have s2 := sm_want hT (f := bs [100, 111]) (bs_ne _ (by simp)) s1.1
  have c3 : (st (want T (bs [100, 111]) (pf s).2)).2.code = 0 := h
  have c2 := sm_code hSS s2.1 c3
  obtain ⟨c1, _, _⟩ := want_ok c2
  show (sn (want T (bs [100, 111]) (pn s).2)).2 = after T (lookSt E (.loop (pf s).1 (st (want T (bs [100, 111]) (pf s).2)).1)) (st (want T (bs [100, 111]) (pf s).2)).2
  rw [hR s hg hc c1, want_after hT (bs_ne _ (by simp)) (nz_lookEx E _), lookSt]
  exact hRS.on hNS (nz_lookEx E _) m2.1 c2 c3

omit hT in
theorem listLoop_one {st : PS → St × PS} (n : Nat) (l : List St) (s : PS) : listLoop T st (n + 1) l s = if sees T (bs [59]) (listOne T st s).2 then listLoop T st n (l ++ (listOne T st s).1) (adv (listOne T st s).2) else (l ++ (listOne T st s).1, (listOne T st s).2) := by rw [listLoop]

omit hT in
theorem rel_listOne {st sn : PS → St × PS} (hRS : RelS T E st sn) {s : PS} (hg : Good T s) (hc : s.code = 0) (h : (listOne T st s).2.code = 0) : (listOne T sn s).2 = after T (lookSts E (listOne T st s).1) (listOne T st s).2 := by
  unfold listOne at h ⊢
  by_cases hz : (sees T (bs [59]) s || sees T (bs [101, 110, 100]) s) = true
  · rw [if_pos hz, if_pos hz]
    show s = after T (lookSts E []) s
    rw [lookSts]; rfl
  · rw [if_neg hz] at h
    rw [if_neg hz, if_neg hz]
    show (sn s).2 = after T (lookSts E [(st s).1]) (st s).2
    rw [lookSts, lookSts, hRS s hg hc h]
    simp

theorem listLoop_code {st : PS → St × PS} (hS : SM T st) {n : Nat} {l : List St} {s : PS} (hs : Stk T s) (h : (listLoop T st n l s).2.code = 0) : s.code = 0 := by
  by_cases hc : s.code = 0
  · exact hc
  · rw [(sm_listLoop hT hS n l s hs).2 hc] at h; exact h

theorem rel_listLoop {st sn : PS → St × PS} (hRS : RelS T E st sn) (hMS : Mon T st) (hSS : SM T st) (hNS : SM T sn) :
    ∀ (n : Nat) (l l' : List St) (s : PS), Good T s → s.code = 0 → (listLoop T st n l s).2.code = 0 → ∃ X, Nz X ∧ lookSts E (listLoop T st n l s).1 = (lookSts E l).or X ∧ (listLoop T sn n l' s).2 = after T X (listLoop T st n l s).2
  | 0, l, l', s, hg, hc, h => ⟨none, .none, by simp [listLoop], rfl⟩
  | n + 1, l, l', s, hg, hc, h => by
    rw [listLoop_one] at h
    rw [listLoop_one, listLoop_one]
    have hs := stk0 (T := T) hc
    have m1 := mon_listOne hMS s hg
    have s1 := sm_listOne hSS s hs
    by_cases hz : sees T (bs [59]) (listOne T st s).2 = true
    · rw [if_pos hz] at h
      have c1 := code_of_sees hT s1.1 (bs_ne _ (by simp)) hz
      have e := rel_listOne hRS hg hc c1
      have hga := good_adv hT m1.1 hz (bs_ne _ (by simp))
      have hca : (adv (listOne T st s).2).code = 0 := c1
      obtain ⟨X, hX, h1, h2⟩ := rel_listLoop hRS hMS hSS hNS n (l ++ (listOne T st s).1) (l' ++ (listOne T sn s).1) (adv (listOne T st s).2) hga hca h
      rw [if_pos hz]
      have nz := nz_lookSts E (listOne T st s).1
      refine ⟨(lookSts E (listOne T st s).1).or X, nz.or hX, ?_, ?_⟩
      · rw [h1, lookSts_append, Option.or_assoc]
      · cases hl : lookSts E (listOne T st s).1 with
        | none =>
          rw [hl, after_none] at e
          have hz2 : sees T (bs [59]) (listOne T sn s).2 = true := by rw [e]; exact hz
          rw [if_pos hz2, e, h2]; rfl
        | some x =>
          rw [hl] at nz e
          have hno : ¬ sees T (bs [59]) (listOne T sn s).2 = true := by
            rw [e, sees_after hT (bs_ne _ (by simp)) nz]; simp
          rw [if_neg hno]; exact e
    · rw [if_neg hz] at h
      rw [if_neg hz]
      have e := rel_listOne hRS hg hc h
      have nz := nz_lookSts E (listOne T st s).1
      refine ⟨lookSts E (listOne T st s).1, nz, ?_, ?_⟩
      · show lookSts E (l ++ (listOne T st s).1) = _
        rw [lookSts_append]
      · have hno : ¬ sees T (bs [59]) (listOne T sn s).2 = true := by
          rw [e, sees_after hT (bs_ne _ (by simp)) nz]; simp [hz]
        rw [if_neg hno]
        exact e

theorem rel_listOf {st sn : PS → St × PS} (hRS : RelS T E st sn) (hMS : Mon T st) (hSS : SM T st) (hNS : SM T sn) {s : PS} (hg : Good T s) (hc : s.code = 0) (h : (listOf T st s).2.code = 0) :
    (listOf T sn s).2 = after T (lookSts E (listOf T st s).1) (listOf T st s).2 := by
  obtain ⟨X, _, h1, h2⟩ := rel_listLoop hT hRS hMS hSS hNS T.length [] [] s hg hc h
  show (listLoop T sn T.length [] s).2 = after T (lookSts E (listLoop T st T.length [] s).1) (listLoop T st T.length [] s).2
  rw [h1, h2, lookSts]; rfl

theorem rel_stmtN (hB : Br T) : ∀ k, RelS T E (stmtN T none k) (stmtN T (some E) k)
  | 0 => fun s hg hc h => by
    exfalso
    have : (fails T 5 s).code = 0 := h
    simp [fails, hc] at this
  | k + 1 => fun s hg hc h => by
    have ih := rel_stmtN hB k
    have hMS := mon_stmtN hT none k
    have hSS := sm_stmtN hT none k
    have hNS := sm_stmtN hT (some E) k
    have hX : Rel T E (exprN T none k) (exprN T (some E) k) := rel_exprN hT hB k
    have hMX := mon_exprN hT none k
    have hSX := sm_exprN hT none k
    have hNX := sm_exprN hT (some E) k
    have hca : (adv s).code = 0 := hc
    rw [stmtN] at h
    rw [stmtN, stmtN]
    by_cases h1 : kindIs T .name s = true
    · rw [if_pos h1] at h
      rw [if_pos h1, if_pos h1]
      exact rel_namedSt hT (bal_exprN hT hB k) hX hMX hSX hNX hg hc h1 h
    · rw [if_neg h1] at h
      rw [if_neg h1, if_neg h1]
      by_cases h2 : sees T (bs [105, 102]) s = true
      · rw [if_pos h2] at h
        rw [if_pos h2, if_pos h2]
        exact rel_choice hT hX hMX hSX ih hMS hSS hNS (good_adv hT hg h2 (bs_ne _ (by simp))) hca h
      · rw [if_neg h2] at h
        rw [if_neg h2, if_neg h2]
        by_cases h3 : sees T (bs [119, 104, 105, 108, 101]) s = true
        · rw [if_pos h3] at h
          rw [if_pos h3, if_pos h3]
          exact rel_while hT hX hMX hSX ih hSS hNS (good_adv hT hg h3 (bs_ne _ (by simp))) hca h
        · rw [if_neg h3] at h
          rw [if_neg h3, if_neg h3]
          by_cases h4 : sees T (bs [98, 101, 103, 105, 110]) s = true
          · rw [if_pos h4] at h
            rw [if_pos h4, if_pos h4]
            have hga := good_adv hT hg h4 (bs_ne _ (by simp))
            obtain ⟨c1, _, _⟩ := want_ok h
            show want T (bs [101, 110, 100]) (listOf T (stmtN T (some E) k) (adv s)).2 = after T (lookSt E (.block (listOf T (stmtN T none k) (adv s)).1)) (want T (bs [101, 110, 100]) (listOf T (stmtN T none k) (adv s)).2)
            rw [rel_listOf hT ih hMS hSS hNS hga hca c1, want_after hT (bs_ne _ (by simp)) (nz_lookSts E _), lookSt]
          · rw [if_neg h4] at h
            rw [if_neg h4, if_neg h4]
            by_cases h5 : sees T (bs [119, 114, 105, 116, 101]) s = true
            · rw [if_pos h5] at h
              rw [if_pos h5, if_pos h5]
              show _ = after T (lookSt E (.write _)) _
              rw [lookSt]
              exact hX _ (good_adv hT hg h5 (bs_ne _ (by simp))) hca h
            · rw [if_neg h5] at h
              rw [if_neg h5, if_neg h5]
              by_cases h6 : sees T (bs [114, 101, 97, 100]) s = true
              · rw [if_pos h6] at h
                rw [if_pos h6, if_pos h6]
                show readN T (some E) (adv s) = after T (lookSt E (.read _ _)) (readN T none (adv s))
                have h7 : (readN T none (adv s)).code = 0 := h
                rw [lookSt]
                unfold readN at h7 ⊢
                by_cases hk : kindIs T .name (adv s) = true
                · rw [if_pos hk, if_pos hk, wantsE_after, nameP_kind hk]; rfl
                · rw [if_neg hk] at h7
                  exfalso
                  simp [fails, hca] at h7
              · rw [if_neg h6] at h
                exfalso
                have : (fails T 4 s).code = 0 := h
                simp [fails, hc] at this

/-- The list of a body. -/
theorem rel_body (hB : Br T) {s : PS} (hg : Good T s) (hc : s.code = 0) (h : (listOf T (stmtN T none 14) s).2.code = 0) :
    (listOf T (stmtN T (some E) 14) s).2 = after T (lookSts E (listOf T (stmtN T none 14) s).1) (listOf T (stmtN T none 14) s).2 :=
  rel_listOf hT (rel_stmtN hT hB 14) (mon_stmtN hT none 14) (sm_stmtN hT none 14) (sm_stmtN hT (some E) 14) hg hc h

end

end Go.Proofs.YtklobognaldjpaaGreat

namespace Go.Proofs.YtklobognaldjpaaGreat

/-- A name is declared; what is known then; what is wrong. -/
def declF (E : Env) (here : Bool) (n : ByteArray) (p kind args : Nat) : Env × Option (Nat × Nat) :=
  if (findLast (E.row here) n).isSome then (E, some (6, p)) else (E.add here ⟨n, kind, args⟩, none)

def lookNames (E : Env) : List (ByteArray × Nat) → Env × Option (Nat × Nat)
  | [] => (E, none)
  | x :: l => ((lookNames (declF E true x.1 x.2 0 0).1 l).1, (declF E true x.1 x.2 0 0).2.or (lookNames (declF E true x.1 x.2 0 0).1 l).2)

def manyF (n p : Nat) : Option (Nat × Nat) := if 4 < n then some (7, p) else none
def sizeF (n p : Nat) : Option (Nat × Nat) := if n < 1 ∨ 20 < n then some (3, p) else none

/-- A proc or func: as far as its names. -/
def lookHead (E : Env) (kind : Nat) (r : Ro) : Env × Option (Nat × Nat) :=
  ((lookNames (declF E false r.name.1 r.name.2 kind r.params.length).1 r.params).1,
   ((declF E false r.name.1 r.name.2 kind r.params.length).2.or (manyF r.params.length r.name.2)).or (lookNames (declF E false r.name.1 r.name.2 kind r.params.length).1 r.params).2)

def lookRo (E : Env) (kind : Nat) (r : Ro) : Env × Option (Nat × Nat) :=
  ((lookNames (lookHead E kind r).1 r.locals).1.leave,
   ((lookHead E kind r).2.or (lookNames (lookHead E kind r).1 r.locals).2).or (lookSts (lookNames (lookHead E kind r).1 r.locals).1.enter r.body))

def lookGl (E : Env) : Gl → Env × Option (Nat × Nat)
  | .var n p => declF E false n p 0 0
  | .arr n p size at_ => ((declF E false n p 1 0).1, (declF E false n p 1 0).2.or (sizeF size at_))
  | .proc r => lookRo E 2 r
  | .func r => lookRo E 3 r

def lookGls (E : Env) : List Gl → Env × Option (Nat × Nat)
  | [] => (E, none)
  | g :: l => ((lookGls (lookGl E g).1 l).1, (lookGl E g).2.or (lookGls (lookGl E g).1 l).2)

/-- What is wrong first with the names of a program. -/
def lookPr (E : Env) (p : Pr) : Option (Nat × Nat) := (lookGls E p.globals).2.or (lookSts (lookGls E p.globals).1 p.body)

theorem nz_declF (E : Env) (here : Bool) (n : ByteArray) (p kind args : Nat) : Nz (declF E here n p kind args).2 := by
  unfold declF; split
  · intro x hx; cases hx; simp
  · exact .none
theorem nz_manyF (n p : Nat) : Nz (manyF n p) := by
  unfold manyF; split
  · intro x hx; cases hx; simp
  · exact .none
theorem nz_sizeF (n p : Nat) : Nz (sizeF n p) := by
  unfold sizeF; split
  · intro x hx; cases hx; simp
  · exact .none
theorem nz_lookNames : ∀ (l : List (ByteArray × Nat)) (E : Env), Nz (lookNames E l).2
  | [], _ => .none
  | _ :: l, _ => (nz_declF _ _ _ _ _ _).or (nz_lookNames l _)
theorem nz_lookHead (E : Env) (kind : Nat) (r : Ro) : Nz (lookHead E kind r).2 := ((nz_declF _ _ _ _ _ _).or (nz_manyF _ _)).or (nz_lookNames _ _)
theorem nz_lookRo (E : Env) (kind : Nat) (r : Ro) : Nz (lookRo E kind r).2 := ((nz_lookHead E kind r).or (nz_lookNames _ _)).or (nz_lookSts _ _)
theorem nz_lookGl (E : Env) (g : Gl) : Nz (lookGl E g).2 := by
  cases g with
  | var n p => exact nz_declF _ _ _ _ _ _
  | arr n p a b => exact (nz_declF _ _ _ _ _ _).or (nz_sizeF _ _)
  | proc r => exact nz_lookRo _ _ _
  | func r => exact nz_lookRo _ _ _
theorem nz_lookGls : ∀ (l : List Gl) (E : Env), Nz (lookGls E l).2
  | [], _ => .none
  | _ :: l, _ => (nz_lookGl _ _).or (nz_lookGls l _)

theorem lookNames_append (k : List (ByteArray × Nat)) : ∀ (l : List (ByteArray × Nat)) (E : Env), lookNames E (l ++ k) = ((lookNames (lookNames E l).1 k).1, (lookNames E l).2.or (lookNames (lookNames E l).1 k).2)
  | [], E => by simp [lookNames]
  | x :: l, E => by
    show lookNames E (x :: (l ++ k)) = _
    rw [lookNames, lookNames, lookNames_append k l]
    simp [Option.or_assoc]

theorem lookGls_append (k : List Gl) : ∀ (l : List Gl) (E : Env), lookGls E (l ++ k) = ((lookGls (lookGls E l).1 k).1, (lookGls E l).2.or (lookGls (lookGls E l).1 k).2)
  | [], E => by simp [lookGls]
  | x :: l, E => by
    show lookGls E (x :: (l ++ k)) = _
    rw [lookGls, lookGls, lookGls_append k l]
    simp [Option.or_assoc]

section
variable {T : List Tok} {E : Env}

/-- Declaring with names, against a look at the tree; r: where one is without names. -/
structure RelD (T : List Tok) (N : Option Env × PS) (L : Env × Option (Nat × Nat)) (r : PS) : Prop where
  st : N.2 = after T L.2 r
  env : L.2 = none → N.1 = some L.1

theorem rel_declE {here : Bool} {s0 s : PS} {kind args : Nat} (hc : s.code = 0) : RelD T (declE T (some E) here s0 kind args s) (declF E here (cur T s0).text (cur T s0).pos kind args) s := by
  unfold declE declF
  simp only
  rw [if_pos hc]
  by_cases h : (findLast (E.row here) (cur T s0).text).isSome = true
  · rw [if_pos h, if_pos h]; exact ⟨rfl, fun h => by cases h⟩
  · rw [if_neg h, if_neg h]; exact ⟨rfl, fun _ => rfl⟩

theorem sizeE_live {s0 s : PS} (hc : s.code = 0) : sizeE T (some E) s0 s = after T (sizeF (cur T s0).val (cur T s0).pos) s := by
  unfold sizeE sizeF
  simp only
  by_cases h : (cur T s0).val < 1 ∨ 20 < (cur T s0).val
  · rw [if_pos (And.intro hc h), if_pos h]; rfl
  · rw [if_neg (fun h2 => h h2.2), if_neg h]; rfl

theorem sizeE_dead {s0 s : PS} (hc : s.code ≠ 0) : sizeE T (some E) s0 s = s := by
  unfold sizeE
  simp only
  rw [if_neg (fun h => hc h.1)]

theorem sizeE_after {s0 s : PS} (hc : s.code = 0) {f : Option (Nat × Nat)} (hf : Nz f) : sizeE T (some E) s0 (after T f s) = after T (f.or (sizeF (cur T s0).val (cur T s0).pos)) s := by
  cases f with
  | none => exact sizeE_live hc
  | some x => exact sizeE_dead (hf x rfl)

theorem manyE_live {s0 s : PS} {n : Nat} (hc : s.code = 0) : manyE T (some E) s0 n s = after T (manyF n (cur T s0).pos) s := by
  unfold manyE manyF
  simp only
  by_cases h : 4 < n
  · rw [if_pos (And.intro hc h), if_pos h]; rfl
  · rw [if_neg (fun h2 => h h2.2), if_neg h]; rfl

theorem manyE_dead {s0 s : PS} {n : Nat} (hc : s.code ≠ 0) : manyE T (some E) s0 n s = s := by
  unfold manyE
  simp only
  rw [if_neg (fun h => hc h.1)]

theorem manyE_after {s0 s : PS} {n : Nat} (hc : s.code = 0) {f : Option (Nat × Nat)} (hf : Nz f) : manyE T (some E) s0 n (after T f s) = after T (f.or (manyF n (cur T s0).pos)) s := by
  cases f with
  | none => exact manyE_live hc
  | some x => exact manyE_dead (hf x rfl)

theorem name_live {s : PS} (h : (nameP T s).2.code = 0) : s.code = 0 ∧ kindIs T .name s = true ∧ nameP T s = (((cur T s).text, (cur T s).pos), adv s) := by
  unfold nameP at *
  split at h
  · rename_i hk; exact ⟨h, hk, by rw [if_pos hk]⟩
  · exfalso
    unfold fails at h
    simp only at h
    split at h
    · cases h
    · rename_i hc; exact hc h

theorem num_live {s : PS} (h : (numP T s).2.code = 0) : s.code = 0 ∧ numP T s = (((cur T s).val, (cur T s).pos), adv s) := by
  unfold numP at *
  split at h
  · rename_i hk; exact ⟨h, by rw [if_pos hk]⟩
  · exfalso
    unfold fails at h
    simp only at h
    split at h
    · cases h
    · rename_i hc; exact hc h

variable (hT : Toks T)
include hT

theorem rel_itemN {s : PS} (h : (itemP T s).2.code = 0) : RelD T (itemN T (some E) s) (lookGl E (itemP T s).1) (itemP T s).2 := by
  unfold itemP itemN at *
  by_cases hb : sees T (bs [91]) (nameP T s).2 = true
  · rw [if_pos hb] at h
    rw [if_pos hb, if_pos hb]
    obtain ⟨c1, _, _⟩ := want_ok h
    obtain ⟨c2, e2⟩ := num_live c1
    obtain ⟨c3, _, e3⟩ := name_live (show (nameP T s).2.code = 0 from c2)
    have hd := rel_declE (T := T) (E := E) (here := false) (s0 := s) (kind := 1) (args := 0) c1
    have hn := nz_declF E false (cur T s).text (cur T s).pos 1 0
    show RelD T ((declE T (some E) false s 1 0 (numP T (adv (nameP T s).2)).2).1, want T (bs [93]) (sizeE T (some E) (adv (nameP T s).2) (declE T (some E) false s 1 0 (numP T (adv (nameP T s).2)).2).2)) ((declF E false (nameP T s).1.1 (nameP T s).1.2 1 0).1, (declF E false (nameP T s).1.1 (nameP T s).1.2 1 0).2.or (sizeF (numP T (adv (nameP T s).2)).1.1 (numP T (adv (nameP T s).2)).1.2)) (want T (bs [93]) (numP T (adv (nameP T s).2)).2)
    have e4 : (nameP T s).1 = ((cur T s).text, (cur T s).pos) := by rw [e3]
    have e5 : (numP T (adv (nameP T s).2)).1 = ((cur T (adv (nameP T s).2)).val, (cur T (adv (nameP T s).2)).pos) := by rw [e2]
    rw [e4, e5]
    refine ⟨?_, fun h0 => ?_⟩
    · show want T (bs [93]) (sizeE T (some E) (adv (nameP T s).2) (declE T (some E) false s 1 0 (numP T (adv (nameP T s).2)).2).2) = after T _ _
      rw [hd.st, sizeE_after c1 hn, want_after hT (bs_ne _ (by simp)) (hn.or (nz_sizeF _ _))]
    · refine hd.env ?_
      cases hh : (declF E false (cur T s).text (cur T s).pos 1 0).2 with
      | none => rfl
      | some x => have h0' : (declF E false (cur T s).text (cur T s).pos 1 0).2.or _ = none := h0; rw [hh] at h0'; cases h0'
  · rw [if_neg hb] at h
    rw [if_neg hb, if_neg hb]
    obtain ⟨c1, _, e1⟩ := name_live (show (nameP T s).2.code = 0 from h)
    show RelD T (declE T (some E) false s 0 0 (nameP T s).2) (declF E false (nameP T s).1.1 (nameP T s).1.2 0 0) (nameP T s).2
    have e4 : (nameP T s).1 = ((cur T s).text, (cur T s).pos) := by rw [e1]
    rw [e4]
    exact rel_declE h

omit hT in
theorem or_none {a b : Option (Nat × Nat)} (h : a.or b = none) : a = none ∧ b = none := by
  cases a with
  | none => exact ⟨rfl, by simpa using h⟩
  | some x => cases h

theorem itemsLoop_code : ∀ {n : Nat} {l : List Gl} {s : PS}, Good T s → Stk T s → (itemsLoop T n l s).2.code = 0 → s.code = 0 := by
  intro n l s hg hs h
  have e := itemsLoopN_none (T := T) n l s
  exact (go2_itemsLoopN hT n none s hg hs).code (by rw [e]; exact h)

theorem go2_itemP {s : PS} (hg : Good T s) (hs : Stk T s) : Go2 T s (itemP T s).2 := by
  have := go2_itemN hT none hg hs
  rw [itemN_none] at this
  exact this

theorem rel_itemsLoop : ∀ (n : Nat) (acc : List Gl) (E : Env) (s : PS), Good T s → s.code = 0 → (itemsLoop T n acc s).2.code = 0 → ∃ X, (itemsLoop T n acc s).1 = acc ++ X ∧ RelD T (itemsLoopN T n (some E) s) (lookGls E X) (itemsLoop T n acc s).2
  | 0, acc, E, s, hg, hc, h => ⟨[], by simp [itemsLoop], rfl, fun _ => rfl⟩
  | n + 1, acc, E, s, hg, hc, h => by
    rw [itemsLoop] at h
    rw [itemsLoop, itemsLoopN]
    by_cases hs : sees T (bs [44]) s = true
    · rw [if_pos hs] at h
      rw [if_pos hs, if_pos hs]
      have hga := good_adv hT hg hs (bs_ne _ (by simp))
      have hsa : Stk T (adv s) := stk_adv hc
      have hI := go2_itemP hT hga hsa
      have c1 := itemsLoop_code hT hI.good hI.stk h
      have hR := rel_itemN (E := E) hT c1
      have nz := nz_lookGl E (itemP T (adv s)).1
      obtain ⟨X, e1, hX⟩ := rel_itemsLoop n (acc ++ [(itemP T (adv s)).1]) (lookGl E (itemP T (adv s)).1).1 (itemP T (adv s)).2 hI.good c1 h
      refine ⟨(itemP T (adv s)).1 :: X, by rw [e1]; simp, ?_⟩
      rw [lookGls]
      cases hl : (lookGl E (itemP T (adv s)).1).2 with
      | none =>
        have e2 := hR.st
        rw [hl, after_none] at e2
        rw [e2, hR.env hl]
        exact ⟨hX.st, hX.env⟩
      | some x =>
        rw [hl] at nz
        have e2 := hR.st
        rw [hl] at e2
        have hno : sees T (bs [44]) (itemN T (some E) (adv s)).2 = false := by rw [e2, sees_after hT (bs_ne _ (by simp)) nz]; rfl
        rw [itemsLoopN_stop hno]
        exact ⟨e2, fun h0 => by cases h0⟩
    · rw [if_neg hs, if_neg hs]
      exact ⟨[], by simp, rfl, fun _ => rfl⟩

theorem rel_itemsN {s : PS} (hg : Good T s) (hs : Stk T s) (h : (itemsP T s).2.code = 0) : RelD T (itemsN T (some E) s) (lookGls E (itemsP T s).1) (itemsP T s).2 := by
  obtain ⟨c1, _, _⟩ := want_ok (show (want T (bs [59]) (itemsLoop T T.length [(itemP T s).1] (itemP T s).2).2).code = 0 from h)
  have hI := go2_itemP hT hg hs
  have c2 := itemsLoop_code hT hI.good hI.stk c1
  have hR := rel_itemN (E := E) hT c2
  have nz := nz_lookGl E (itemP T s).1
  obtain ⟨X, e1, hX⟩ := rel_itemsLoop hT T.length [(itemP T s).1] (lookGl E (itemP T s).1).1 (itemP T s).2 hI.good c2 c1
  show RelD T ((itemsLoopN T T.length (itemN T (some E) s).1 (itemN T (some E) s).2).1, want T (bs [59]) (itemsLoopN T T.length (itemN T (some E) s).1 (itemN T (some E) s).2).2) (lookGls E (itemsLoop T T.length [(itemP T s).1] (itemP T s).2).1) (want T (bs [59]) (itemsLoop T T.length [(itemP T s).1] (itemP T s).2).2)
  rw [e1]
  show RelD T _ (lookGls E ((itemP T s).1 :: X)) _
  rw [lookGls]
  cases hl : (lookGl E (itemP T s).1).2 with
  | none =>
    have e2 := hR.st
    rw [hl, after_none] at e2
    rw [e2, hR.env hl]
    refine ⟨?_, hX.env⟩
    show want T (bs [59]) (itemsLoopN T T.length (some (lookGl E (itemP T s).1).1) (itemP T s).2).2 = _
    rw [hX.st, want_after hT (bs_ne _ (by simp)) (nz_lookGls _ _)]
    rfl
  | some x =>
    rw [hl] at nz
    have e2 := hR.st
    rw [hl] at e2
    have hno : sees T (bs [44]) (itemN T (some E) s).2 = false := by rw [e2, sees_after hT (bs_ne _ (by simp)) nz]; rfl
    rw [itemsLoopN_stop hno]
    refine ⟨?_, fun h0 => by cases h0⟩
    show want T (bs [59]) (itemN T (some E) s).2 = _
    rw [e2, want_after hT (bs_ne _ (by simp)) nz]
    rfl

omit hT in
theorem rel_oneN {s : PS} (h : (nameP T s).2.code = 0) : RelD T (oneN T (some E) s) (lookNames E [(nameP T s).1]) (nameP T s).2 := by
  obtain ⟨c1, _, e1⟩ := name_live h
  have e4 : (nameP T s).1 = ((cur T s).text, (cur T s).pos) := by rw [e1]
  rw [lookNames, lookNames, e4]
  have := rel_declE (T := T) (E := E) (here := true) (s0 := s) (kind := 0) (args := 0) h
  exact ⟨by show _ = after T (Option.or _ none) _; rw [Option.or_none]; exact this.st, fun h0 => this.env (or_none h0).1⟩

theorem namesLoop_code {n : Nat} {l : List (ByteArray × Nat)} {s : PS} (hg : Good T s) (hs : Stk T s) (h : (namesLoop T n l s).2.code = 0) : s.code = 0 := by
  have e := hereLoopN_none (T := T) n l s
  exact (go2_hereLoopN hT n none s hg hs).code (by rw [e]; exact h)

theorem rel_hereLoop : ∀ (n : Nat) (acc : List (ByteArray × Nat)) (E : Env) (s : PS), Good T s → s.code = 0 → (namesLoop T n acc s).2.code = 0 → ∃ X, (namesLoop T n acc s).1 = acc ++ X ∧ RelD T (hereLoopN T n (some E) s) (lookNames E X) (namesLoop T n acc s).2
  | 0, acc, E, s, hg, hc, h => ⟨[], by simp [namesLoop], rfl, fun _ => rfl⟩
  | n + 1, acc, E, s, hg, hc, h => by
    rw [namesLoop] at h
    rw [namesLoop, hereLoopN]
    by_cases hs : sees T (bs [44]) s = true
    · rw [if_pos hs] at h
      rw [if_pos hs, if_pos hs]
      have hga := good_adv hT hg hs (bs_ne _ (by simp))
      have hsa : Stk T (adv s) := stk_adv hc
      have hI := go2_nameP hT hga hsa
      have c1 := namesLoop_code hT hI.good hI.stk h
      have hR := rel_oneN (E := E) c1
      have nz := nz_lookNames [(nameP T (adv s)).1] E
      obtain ⟨X, e1, hX⟩ := rel_hereLoop n (acc ++ [(nameP T (adv s)).1]) (lookNames E [(nameP T (adv s)).1]).1 (nameP T (adv s)).2 hI.good c1 h
      refine ⟨[(nameP T (adv s)).1] ++ X, by rw [e1]; simp, ?_⟩
      rw [lookNames_append]
      cases hl : (lookNames E [(nameP T (adv s)).1]).2 with
      | none =>
        have e2 := hR.st
        rw [hl, after_none] at e2
        rw [e2, hR.env hl]
        exact ⟨hX.st, hX.env⟩
      | some x =>
        rw [hl] at nz
        have e2 := hR.st
        rw [hl] at e2
        have hno : sees T (bs [44]) (oneN T (some E) (adv s)).2 = false := by rw [e2, sees_after hT (bs_ne _ (by simp)) nz]; rfl
        rw [hereLoopN_stop hno]
        exact ⟨e2, fun h0 => by cases h0⟩
    · rw [if_neg hs, if_neg hs]
      exact ⟨[], by simp, rfl, fun _ => rfl⟩

theorem rel_hereN {s : PS} (hg : Good T s) (hs : Stk T s) (h : (namesP T s).2.code = 0) : RelD T (hereN T (some E) s) (lookNames E (namesP T s).1) (namesP T s).2 := by
  have hI := go2_nameP hT hg hs
  have c2 := namesLoop_code hT hI.good hI.stk (show (namesLoop T T.length [(nameP T s).1] (nameP T s).2).2.code = 0 from h)
  have hR := rel_oneN (E := E) c2
  have nz := nz_lookNames [(nameP T s).1] E
  obtain ⟨X, e1, hX⟩ := rel_hereLoop hT T.length [(nameP T s).1] (lookNames E [(nameP T s).1]).1 (nameP T s).2 hI.good c2 h
  show RelD T (hereLoopN T T.length (oneN T (some E) s).1 (oneN T (some E) s).2) (lookNames E (namesLoop T T.length [(nameP T s).1] (nameP T s).2).1) (namesLoop T T.length [(nameP T s).1] (nameP T s).2).2
  rw [e1, lookNames_append]
  cases hl : (lookNames E [(nameP T s).1]).2 with
  | none =>
    have e2 := hR.st
    rw [hl, after_none] at e2
    rw [e2, hR.env hl]
    exact ⟨hX.st, hX.env⟩
  | some x =>
    rw [hl] at nz
    have e2 := hR.st
    rw [hl] at e2
    have hno : sees T (bs [44]) (oneN T (some E) s).2 = false := by rw [e2, sees_after hT (bs_ne _ (by simp)) nz]; rfl
    rw [hereLoopN_stop hno]
    exact ⟨e2, fun h0 => by cases h0⟩

theorem go2_namesP {s : PS} (hg : Good T s) (hs : Stk T s) : Go2 T s (namesP T s).2 := by
  have := go2_hereN hT none hg hs
  rw [hereN_none] at this
  exact this

/-- Behind what was wrong already. -/
theorem rel_hereN_on {f : Option (Nat × Nat)} (hf : Nz f) {m : Option Env} (hm : f = none → m = some E) {s : PS} (hg : Good T s) (hs : Stk T s) (h : (namesP T s).2.code = 0) :
    (hereN T m (after T f s)).2 = after T (f.or (lookNames E (namesP T s).1).2) (namesP T s).2 ∧ (f.or (lookNames E (namesP T s).1).2 = none → (hereN T m (after T f s)).1 = some (lookNames E (namesP T s).1).1) := by
  cases f with
  | none =>
    rw [hm rfl]
    have := rel_hereN (E := E) hT hg hs h
    exact ⟨this.st, this.env⟩
  | some x =>
    have hg2 : Good T (stop T x.1 x.2) := (mon_stop hT x.1 x.2 hg).1
    exact ⟨(go2_hereN hT m hg2 (fun _ => rfl)).still (hf x rfl), fun h0 => by cases h0⟩

end

end Go.Proofs.YtklobognaldjpaaGreat

namespace Go.Proofs.YtklobognaldjpaaGreat

section
variable {T : List Tok} {E : Env} (hT : Toks T)
include hT

/-- Names with commas between them are as many as are counted. -/
theorem count_namesLoop : ∀ (n : Nat) (acc : List (ByteArray × Nat)) (s : PS), Good T s → s.code = 0 → (namesLoop T n acc s).2.code = 0 → sees T (bs [44]) (namesLoop T n acc s).2 = false → ∀ k,
    (if isComma (cur T s) then countGo (T.drop (s.next + 1)) k else k) = k + ((namesLoop T n acc s).1.length - acc.length)
  | 0, acc, s, hg, hc, h, he, k => by
    have e : isComma (cur T s) = false := he
    rw [if_neg (by rw [e]; simp)]
    simp [namesLoop]
  | n + 1, acc, s, hg, hc, h, he, k => by
    rw [namesLoop] at h he ⊢
    by_cases hs : sees T (bs [44]) s = true
    · rw [if_pos hs] at h he ⊢
      have e : isComma (cur T s) = true := hs
      rw [if_pos e]
      have hga := good_adv hT hg hs (bs_ne _ (by simp))
      have hsa : Stk T (adv s) := stk_adv hc
      have hI := go2_nameP hT hga hsa
      have c1 := namesLoop_code hT hI.good hI.stk h
      obtain ⟨c2, hk, e2⟩ := name_live c1
      have hga2 := good_adv_kind hT hga hk (by decide)
      have ih := count_namesLoop n (acc ++ [(nameP T (adv s)).1]) (nameP T (adv s)).2 hI.good c1 h he (k + 1)
      have e3 : (nameP T (adv s)).2 = adv (adv s) := by rw [e2]
      have hkn : (cur T (adv s)).kind = .name := by simpa [kindIs] using hk
      have d1 : T.drop (s.next + 1) = cur T (adv s) :: T.drop (s.next + 1 + 1) := drop_cur hga
      have d2 : T.drop (s.next + 1 + 1) = cur T (adv (adv s)) :: T.drop (s.next + 1 + 1 + 1) := drop_cur hga2
      rw [d1, d2, countGo, if_pos hkn]
      rw [e3] at ih
      have ih' : (if isComma (cur T (adv (adv s))) = true then countGo (T.drop (s.next + 1 + 1 + 1)) (k + 1) else k + 1) = _ := ih
      rw [ih', e3]
      have hlen : (acc ++ [(nameP T (adv s)).1]).length = acc.length + 1 := by simp
      rw [hlen]
      have hle : acc.length + 1 ≤ (namesLoop T n (acc ++ [(nameP T (adv s)).1]) (adv (adv s))).1.length := by
        obtain ⟨X, e5, _⟩ := rel_hereLoop (T := T) hT n (acc ++ [(nameP T (adv s)).1]) ⟨[], [], none, false⟩ (adv (adv s)) hga2 c2 (by rw [← e3]; exact h)
        rw [e5]; simp
      omega
    · rw [if_neg hs] at h he ⊢
      have e : isComma (cur T s) = false := by
        have : sees T (bs [44]) s = false := by simpa using hs
        exact this
      rw [if_neg (by rw [e]; simp)]
      simp

omit hT in
theorem namesLoop_end : ∀ (n : Nat) (acc : List (ByteArray × Nat)) (s : PS), T.length ≤ s.next + n → Good T s → Toks T → s.code = 0 → sees T (bs [44]) (namesLoop T n acc s).2 = false
  | 0, acc, s, hn, hg, _, _ => by have : s.next < T.length := hg; omega
  | n + 1, acc, s, hn, hg, hT, hc => by
    rw [namesLoop]
    by_cases hs : sees T (bs [44]) s = true
    · rw [if_pos hs]
      have hga := good_adv hT hg hs (bs_ne _ (by simp))
      have hI := go2_nameP hT hga (stk_adv hc)
      by_cases h2 : (nameP T (adv s)).2.code = 0
      · exact namesLoop_end n _ _ (by have : s.next + 1 ≤ (nameP T (adv s)).2.next := hI.le; omega) hI.good hT h2
      · have e := hereLoopN_none (T := T) n (acc ++ [(nameP T (adv s)).1]) (nameP T (adv s)).2
        have h3 := (go2_hereLoopN hT n none (nameP T (adv s)).2 hI.good hI.stk)
        have h4 : (namesLoop T n (acc ++ [(nameP T (adv s)).1]) (nameP T (adv s)).2).2 = (nameP T (adv s)).2 := by have := h3.still h2; rw [e] at this; exact this
        rw [h4]
        exact sees_stuck hT hI.stk h2 (bs_ne _ (by simp))
    · rw [if_neg hs]
      simpa using hs

/-- As many parameters as are counted. -/
theorem count_params {s : PS} (hg : Good T s) (hc : s.code = 0) (h : (paramsP T s).2.code = 0) (hfx : sees T (bs [41]) s = true → ¬ (cur T s).kind = .name) : countT T s = (paramsP T s).1.length := by
  unfold countT
  unfold paramsP at h ⊢
  by_cases hs : sees T (bs [41]) s = true
  · rw [if_pos hs, drop_cur hg]
    have := hfx hs
    cases hd : T.drop (s.next + 1) with
    | nil => rfl
    | cons u r => rw [countGo, if_neg this]; rfl
  · rw [if_neg hs] at h ⊢
    have hI := go2_nameP hT hg (stk0 hc)
    have h' : (namesLoop T T.length [(nameP T s).1] (nameP T s).2).2.code = 0 := h
    have c1 := namesLoop_code hT hI.good hI.stk h'
    obtain ⟨_, hk, e2⟩ := name_live c1
    have e3 : (nameP T s).2 = adv s := by rw [e2]
    have hga := good_adv_kind hT hg hk (by decide)
    have hkn : (cur T s).kind = .name := by simpa [kindIs] using hk
    have d2 : T.drop (s.next + 1) = cur T (adv s) :: T.drop (s.next + 1 + 1) := drop_cur hga
    rw [drop_cur hg, d2, countGo, if_pos hkn]
    have he : sees T (bs [44]) (namesLoop T T.length [(nameP T s).1] (nameP T s).2).2 = false := namesLoop_end T.length _ _ (by omega) hI.good hT c1
    have ih := count_namesLoop hT T.length [(nameP T s).1] (nameP T s).2 hI.good c1 h' he 1
    rw [e3] at ih
    have ih' : (if isComma (cur T (adv s)) = true then countGo (T.drop (s.next + 1 + 1)) 1 else 1) = _ := ih
    rw [show (0 : Nat) + 1 = 1 from rfl, ih']
    show _ = (namesLoop T T.length [(nameP T s).1] (nameP T s).2).1.length
    rw [e3]
    have hle : 1 ≤ (namesLoop T T.length [(nameP T s).1] (adv s)).1.length := by
      obtain ⟨X, e5, _⟩ := rel_hereLoop (T := T) hT T.length [(nameP T s).1] ⟨[], [], none, false⟩ (adv s) hga (by rw [← e3]; exact c1) (by rw [← e3]; exact h')
      rw [e5]; simp
    simp only [List.length_cons, List.length_nil]
    omega

/-- A proc's or func's names. -/
theorem rel_routHead {kind : Nat} {s : PS} (hg : Good T s) (hs : Stk T s) (hnn : ∀ s, Good T s → sees T (bs [41]) s = true → ¬ (cur T s).kind = .name) (h : (routineHead T s).2.code = 0) (r : Ro) (hr : r.name = (nameP T s).1) (hp : r.params = (routineHead T s).1) :
    RelD T (routHead T (some E) kind s) (lookHead E kind r) (routineHead T s).2 := by
  have h2 := go2_openN hT hg hs
  have e0 : routineHead T s = paramsP T (openN T s) := rfl
  rw [e0] at h hp ⊢
  have hP2 := go2_paramsN hT none h2.good h2.stk
  rw [paramsN_none] at hP2
  have c1 : (openN T s).code = 0 := hP2.code h
  obtain ⟨c0, _, _⟩ := want_ok (show (want T (bs [40]) (nameP T s).2).code = 0 from c1)
  obtain ⟨_, _, e1⟩ := name_live c0
  have en : (nameP T s).1 = ((cur T s).text, (cur T s).pos) := by rw [e1]
  have hct : countT T (openN T s) = r.params.length := by rw [hp]; exact count_params hT h2.good c1 h (hnn _ h2.good)
  have hd := rel_declE (T := T) (E := E) (here := false) (s0 := s) (kind := kind) (args := countT T (openN T s)) c1
  rw [hct] at hd
  have nzd := nz_declF E false (cur T s).text (cur T s).pos kind r.params.length
  have eR : routE T (some E) kind s = ((declE T (some E) false s kind r.params.length (openN T s)).1, manyE T (some E) s r.params.length (declE T (some E) false s kind r.params.length (openN T s)).2) := by unfold routE; rw [hct]
  have eS : (routE T (some E) kind s).2 = after T ((declF E false (cur T s).text (cur T s).pos kind r.params.length).2.or (manyF r.params.length (cur T s).pos)) (openN T s) := by
    rw [eR]
    show manyE T (some E) s r.params.length (declE T (some E) false s kind r.params.length (openN T s)).2 = _
    rw [hd.st, manyE_after c1 nzd]
  have eE : (declF E false (cur T s).text (cur T s).pos kind r.params.length).2.or (manyF r.params.length (cur T s).pos) = none → (routE T (some E) kind s).1 = some (declF E false (cur T s).text (cur T s).pos kind r.params.length).1 := by
    intro h0; rw [eR]; exact hd.env (or_none h0).1
  have nz := nzd.or (nz_manyF r.params.length (cur T s).pos)
  unfold lookHead
  rw [hr, en]
  simp only
  generalize hF : (declF E false (cur T s).text (cur T s).pos kind r.params.length).2.or (manyF r.params.length (cur T s).pos) = f at *
  generalize (declF E false (cur T s).text (cur T s).pos kind r.params.length).1 = E1 at *
  show RelD T (paramsN T (routE T (some E) kind s).1 (routE T (some E) kind s).2) _ _
  rw [eS]
  unfold paramsN
  unfold paramsP at h hp ⊢
  by_cases hsee : sees T (bs [41]) (openN T s) = true
  · rw [if_pos hsee] at hp ⊢
    have hp' : r.params = [] := hp
    rw [hp', lookNames]
    simp only [Option.or_none]
    cases f with
    | none =>
      rw [if_pos (show sees T (bs [41]) (after T none (openN T s)) = true from hsee)]
      exact ⟨rfl, fun _ => eE rfl⟩
    | some x =>
      have hno : ¬ sees T (bs [41]) (after T (some x) (openN T s)) = true := by rw [sees_after hT (bs_ne _ (by simp)) nz]; simp
      rw [if_neg hno]
      exact ⟨(go2_hereN hT _ (mon_stop hT x.1 x.2 h2.good).1 (fun _ => rfl)).still (nz x rfl), fun h0 => by cases h0⟩
  · rw [if_neg hsee] at h hp ⊢
    have hno : ¬ sees T (bs [41]) (after T f (openN T s)) = true := by rw [sees_after hT (bs_ne _ (by simp)) nz]; simp [hsee]
    rw [if_neg hno]
    have := rel_hereN_on (E := E1) hT nz eE h2.good h2.stk h
    rw [hp]
    exact ⟨this.1, this.2⟩

theorem localsLoop_code {n : Nat} {l : List (ByteArray × Nat)} {s : PS} (hg : Good T s) (hs : Stk T s) (h : (localsLoop T n l s).2.code = 0) : s.code = 0 := by
  have e := localsLoopN_none (T := T) n l s
  exact (go2_localsLoopN hT n none s hg hs).code (by rw [e]; exact h)

theorem rel_localsLoop : ∀ (n : Nat) (acc : List (ByteArray × Nat)) (E : Env) (s : PS), Good T s → s.code = 0 → (localsLoop T n acc s).2.code = 0 → ∃ X, (localsLoop T n acc s).1 = acc ++ X ∧ RelD T (localsLoopN T n (some E) s) (lookNames E X) (localsLoop T n acc s).2
  | 0, acc, E, s, hg, hc, h => ⟨[], by simp [localsLoop], rfl, fun _ => rfl⟩
  | n + 1, acc, E, s, hg, hc, h => by
    rw [localsLoop] at h
    rw [localsLoop, localsLoopN]
    by_cases hs : sees T (bs [118, 97, 114]) s = true
    · rw [if_pos hs] at h
      rw [if_pos hs, if_pos hs]
      have hga := good_adv hT hg hs (bs_ne _ (by simp))
      have hsa : Stk T (adv s) := stk_adv hc
      have hI := go2_namesP hT hga hsa
      have hW := go2_want hT (f := bs [59]) (bs_ne _ (by simp)) hI.good hI.stk
      have c1 := localsLoop_code hT hW.good hW.stk h
      obtain ⟨c2, _, _⟩ := want_ok c1
      have hR := rel_hereN (E := E) hT hga hsa c2
      have nz := nz_lookNames (namesP T (adv s)).1 E
      obtain ⟨X, e1, hX⟩ := rel_localsLoop n (acc ++ (namesP T (adv s)).1) (lookNames E (namesP T (adv s)).1).1 (want T (bs [59]) (namesP T (adv s)).2) hW.good c1 h
      refine ⟨(namesP T (adv s)).1 ++ X, by rw [e1]; simp, ?_⟩
      rw [lookNames_append]
      cases hl : (lookNames E (namesP T (adv s)).1).2 with
      | none =>
        have e2 := hR.st
        rw [hl, after_none] at e2
        rw [e2, hR.env hl]
        exact ⟨hX.st, hX.env⟩
      | some x =>
        rw [hl] at nz
        have e2 := hR.st
        rw [hl] at e2
        have e3 : want T (bs [59]) (hereN T (some E) (adv s)).2 = stop T x.1 x.2 := by rw [e2]; exact (sm_want hT (bs_ne _ (by simp)) (fun _ => rfl)).2 (nz x rfl)
        have hno : sees T (bs [118, 97, 114]) (stop T x.1 x.2) = false := sees_stuck hT (fun _ => rfl) (nz x rfl) (bs_ne _ (by simp))
        rw [e3, localsLoopN_stop hno]
        exact ⟨rfl, fun h0 => by cases h0⟩
    · rw [if_neg hs, if_neg hs]
      exact ⟨[], by simp, rfl, fun _ => rfl⟩

theorem rel_routLocals {kind : Nat} {s : PS} (hg : Good T s) (hs : Stk T s) (hnn : ∀ s, Good T s → sees T (bs [41]) s = true → ¬ (cur T s).kind = .name) (h : (routineLocals T s).2.code = 0) (r : Ro) (hr : r.name = (nameP T s).1) (hp : r.params = (routineHead T s).1) (hl : r.locals = (routineLocals T s).1) :
    RelD T (routLocals T (some E) kind s) ((lookNames (lookHead E kind r).1 r.locals).1, (lookHead E kind r).2.or (lookNames (lookHead E kind r).1 r.locals).2) (routineLocals T s).2 := by
  have hH := go2_routHead hT none kind hg hs
  rw [routHead_none] at hH
  have hW := go2_want hT (f := bs [41]) (bs_ne _ (by simp)) hH.good hH.stk
  have c1 := localsLoop_code hT hW.good hW.stk (show (localsLoop T T.length [] (want T (bs [41]) (routineHead T s).2)).2.code = 0 from h)
  obtain ⟨c2, _, _⟩ := want_ok c1
  have hR := rel_routHead (E := E) (kind := kind) hT hg hs hnn c2 r hr hp
  have nz := nz_lookHead E kind r
  obtain ⟨X, e1, hX⟩ := rel_localsLoop hT T.length [] (lookHead E kind r).1 (want T (bs [41]) (routineHead T s).2) hW.good c1 h
  have e2 : r.locals = X := by rw [hl]; show (localsLoop T T.length [] (want T (bs [41]) (routineHead T s).2)).1 = X; rw [e1]; rfl
  rw [e2]
  show RelD T (localsLoopN T T.length (routHead T (some E) kind s).1 (want T (bs [41]) (routHead T (some E) kind s).2)) _ (localsLoop T T.length [] (want T (bs [41]) (routineHead T s).2)).2
  rw [hR.st, want_after hT (bs_ne _ (by simp)) nz]
  cases hk : (lookHead E kind r).2 with
  | none =>
    rw [hR.env hk, after_none]
    exact ⟨hX.st, hX.env⟩
  | some x =>
    rw [hk] at nz
    have hno : sees T (bs [118, 97, 114]) (stop T x.1 x.2) = false := sees_stuck hT (fun _ => rfl) (nz x rfl) (bs_ne _ (by simp))
    show RelD T (localsLoopN T T.length _ (stop T x.1 x.2)) _ _
    rw [localsLoopN_stop hno]
    exact ⟨rfl, fun h0 => by cases h0⟩

/-- A list of statements, behind what was wrong already. -/
theorem rel_body_on (hB : Br T) {f : Option (Nat × Nat)} (hf : Nz f) {m : Option Env} (hm : f = none → m = some E) {s : PS} (hg : Good T s) (hc : s.code = 0) (h : (listOf T (stmtN T none 14) s).2.code = 0) :
    (listOf T (stmtN T m 14) (after T f s)).2 = after T (f.or (lookSts E (listOf T (stmtN T none 14) s).1)) (listOf T (stmtN T none 14) s).2 := by
  cases f with
  | none => rw [hm rfl]; exact rel_body hT hB hg hc h
  | some x => exact (sm_listOf hT (sm_stmtN hT m 14) _ (fun _ => rfl)).2 (hf x rfl)

theorem rel_routineN (hB : Br T) {kind : Nat} {s : PS} (hg : Good T s) (hs : Stk T s) (hnn : ∀ s, Good T s → sees T (bs [41]) s = true → ¬ (cur T s).kind = .name) (h : (routineP T s).2.code = 0) :
    RelD T (routineN T (some E) kind s) (lookRo E kind (routineP T s).1) (routineP T s).2 := by
  have hL := go2_routLocals hT none kind hg hs
  rw [routLocals_none] at hL
  have hb := go2_want hT (f := bs [98, 101, 103, 105, 110]) (bs_ne _ (by simp)) hL.good hL.stk
  have eB : (bodyP T (routineLocals T s).2).2 = want T (bs [101, 110, 100]) (listOf T (stmtN T none 14) (want T (bs [98, 101, 103, 105, 110]) (routineLocals T s).2)).2 := by unfold bodyP; rw [stmtN_none]
  have eB1 : (bodyP T (routineLocals T s).2).1 = (listOf T (stmtN T none 14) (want T (bs [98, 101, 103, 105, 110]) (routineLocals T s).2)).1 := by unfold bodyP; rw [stmtN_none]
  obtain ⟨c1, _, _⟩ := want_ok (show (want T (bs [59]) (bodyP T (routineLocals T s).2).2).code = 0 from h)
  rw [eB] at c1
  obtain ⟨c2, _, _⟩ := want_ok c1
  have hl := go2_list hT none 14 hb.good hb.stk
  have c3 := hl.code c2
  obtain ⟨c4, _, _⟩ := want_ok c3
  have hR := rel_routLocals (E := E) (kind := kind) hT hg hs hnn c4 (routineP T s).1 rfl rfl rfl
  have nz := (nz_lookHead E kind (routineP T s).1).or (nz_lookNames (routineP T s).1.locals (lookHead E kind (routineP T s).1).1)
  have hst := hR.st
  have hev := hR.env
  simp only at hst hev
  have ebd : (routineP T s).1.body = (listOf T (stmtN T none 14) (want T (bs [98, 101, 103, 105, 110]) (routineLocals T s).2)).1 := eB1
  have esn : (routineP T s).2 = want T (bs [59]) (want T (bs [101, 110, 100]) (listOf T (stmtN T none 14) (want T (bs [98, 101, 103, 105, 110]) (routineLocals T s).2)).2) := by show want T (bs [59]) (bodyP T (routineLocals T s).2).2 = _; rw [eB]
  generalize hf : (lookHead E kind (routineP T s).1).2.or (lookNames (lookHead E kind (routineP T s).1).1 (routineP T s).1.locals).2 = f at *
  have hbody := rel_body_on (E := (lookNames (lookHead E kind (routineP T s).1).1 (routineP T s).1.locals).1.enter) hT hB nz (m := (routLocals T (some E) kind s).1.map Env.enter) (fun h0 => by rw [hev h0]; rfl) hb.good c3 c2
  have nz2 := nz.or (nz_lookSts (lookNames (lookHead E kind (routineP T s).1).1 (routineP T s).1.locals).1.enter (listOf T (stmtN T none 14) (want T (bs [98, 101, 103, 105, 110]) (routineLocals T s).2)).1)
  unfold lookRo
  rw [hf, ebd, esn]
  refine ⟨?_, fun h0 => ?_⟩
  · show want T (bs [59]) (want T (bs [101, 110, 100]) (listOf T (stmtN T ((routLocals T (some E) kind s).1.map Env.enter) 14) (want T (bs [98, 101, 103, 105, 110]) (routLocals T (some E) kind s).2)).2) = _
    rw [hst, want_after hT (bs_ne _ (by simp)) nz, hbody, want_after hT (bs_ne _ (by simp)) nz2, want_after hT (bs_ne _ (by simp)) nz2]
  · show (routLocals T (some E) kind s).1.map Env.leave = some _
    rw [hev (or_none h0).1]; rfl

theorem go2_itemsP {s : PS} (hg : Good T s) (hs : Stk T s) : Go2 T s (itemsP T s).2 := by
  have := go2_itemsN hT none hg hs
  rw [itemsN_none] at this
  exact this

theorem go2_routineP {s : PS} (hg : Good T s) (hs : Stk T s) : Go2 T s (routineP T s).2 := by
  have := go2_routineN hT none 2 hg hs
  rw [routineN_none] at this
  exact this

theorem go2_globalsLoopN : ∀ (n : Nat) (m : Option Env) (s : PS), Good T s → Stk T s → Go2 T s (globalsLoopN T n m s).2
  | 0, m, s, hg, hs => .refl hg hs
  | n + 1, m, s, hg, hs => by
    rw [globalsLoopN]
    split
    · rename_i h
      have h1 := go2_adv hT (bs_ne _ (by simp)) hg hs h
      have h2 := go2_itemsN hT m h1.good h1.stk
      exact (h1.trans h2).trans (go2_globalsLoopN n _ _ h2.good h2.stk)
    · split
      · rename_i h
        have h1 := go2_adv hT (bs_ne _ (by simp)) hg hs h
        have h2 := go2_routineN hT m 2 h1.good h1.stk
        exact (h1.trans h2).trans (go2_globalsLoopN n _ _ h2.good h2.stk)
      · split
        · rename_i h
          have h1 := go2_adv hT (bs_ne _ (by simp)) hg hs h
          have h2 := go2_routineN hT m 3 h1.good h1.stk
          exact (h1.trans h2).trans (go2_globalsLoopN n _ _ h2.good h2.stk)
        · exact .refl hg hs

theorem globalsLoop_code {n : Nat} {l : List Gl} {s : PS} (hg : Good T s) (hs : Stk T s) (h : (globalsLoop T n l s).2.code = 0) : s.code = 0 := by
  have e := globalsLoopN_none (T := T) n l s
  exact (go2_globalsLoopN hT n none s hg hs).code (by rw [e]; exact h)

/-- Behind what is wrong nothing is declared. -/
theorem globalsLoopN_dead {n : Nat} {m : Option Env} {s : PS} (hs : Stk T s) (hc : s.code ≠ 0) : globalsLoopN T n m s = (m, s) := by
  cases n with
  | zero => rfl
  | succ n =>
    rw [globalsLoopN, if_neg (by rw [sees_stuck hT hs hc (bs_ne _ (by simp))]; simp), if_neg (by rw [sees_stuck hT hs hc (bs_ne _ (by simp))]; simp), if_neg (by rw [sees_stuck hT hs hc (bs_ne _ (by simp))]; simp)]

theorem rel_step {n : Nat} {N : Option Env × PS} {E' : Env} {f : Option (Nat × Nat)} {r : PS} (hR : RelD T N (E', f) r) (nz : Nz f) {L : Env × Option (Nat × Nat)} {q : PS} (hX : RelD T (globalsLoopN T n (some E') r) L q) :
    RelD T (globalsLoopN T n N.1 N.2) (L.1, f.or L.2) q := by
  cases f with
  | none =>
    have e2 : N.2 = r := hR.st
    have e3 : N.1 = some E' := hR.env rfl
    rw [e2, e3]
    exact ⟨hX.st, hX.env⟩
  | some x =>
    have e2 : N.2 = stop T x.1 x.2 := hR.st
    rw [e2, globalsLoopN_dead hT (fun _ => rfl) (nz x rfl)]
    exact ⟨rfl, fun h0 => by cases h0⟩

theorem rel_globalsLoop (hB : Br T) (hnn : ∀ s, Good T s → sees T (bs [41]) s = true → ¬ (cur T s).kind = .name) : ∀ (n : Nat) (acc : List Gl) (E : Env) (s : PS), Good T s → s.code = 0 → (globalsLoop T n acc s).2.code = 0 → ∃ X, (globalsLoop T n acc s).1 = acc ++ X ∧ RelD T (globalsLoopN T n (some E) s) (lookGls E X) (globalsLoop T n acc s).2
  | 0, acc, E, s, hg, hc, h => ⟨[], by simp [globalsLoop], rfl, fun _ => rfl⟩
  | n + 1, acc, E, s, hg, hc, h => by
    rw [globalsLoop] at h
    rw [globalsLoop, globalsLoopN]
    have hsa : Stk T (adv s) := stk_adv hc
    by_cases h1 : sees T (bs [118, 97, 114]) s = true
    · rw [if_pos h1] at h
      rw [if_pos h1, if_pos h1]
      have hga := good_adv hT hg h1 (bs_ne _ (by simp))
      have hI := go2_itemsP hT hga hsa
      have c1 := globalsLoop_code hT hI.good hI.stk h
      obtain ⟨X, e1, hX⟩ := rel_globalsLoop hB hnn n (acc ++ (itemsP T (adv s)).1) (lookGls E (itemsP T (adv s)).1).1 (itemsP T (adv s)).2 hI.good c1 h
      refine ⟨(itemsP T (adv s)).1 ++ X, by rw [e1]; simp, ?_⟩
      rw [lookGls_append]
      exact rel_step hT (rel_itemsN (E := E) hT hga hsa c1) (nz_lookGls _ _) hX
    · rw [if_neg h1] at h
      rw [if_neg h1, if_neg h1]
      by_cases h2 : sees T (bs [112, 114, 111, 99]) s = true
      · rw [if_pos h2] at h
        rw [if_pos h2, if_pos h2]
        have hga := good_adv hT hg h2 (bs_ne _ (by simp))
        have hI := go2_routineP hT hga hsa
        have c1 := globalsLoop_code hT hI.good hI.stk h
        obtain ⟨X, e1, hX⟩ := rel_globalsLoop hB hnn n (acc ++ [.proc (routineP T (adv s)).1]) (lookRo E 2 (routineP T (adv s)).1).1 (routineP T (adv s)).2 hI.good c1 h
        refine ⟨.proc (routineP T (adv s)).1 :: X, by rw [e1]; simp, ?_⟩
        rw [lookGls, lookGl]
        exact rel_step hT (rel_routineN (E := E) (kind := 2) hT hB hga hsa hnn c1) (nz_lookRo _ _ _) hX
      · rw [if_neg h2] at h
        rw [if_neg h2, if_neg h2]
        by_cases h3 : sees T (bs [102, 117, 110, 99]) s = true
        · rw [if_pos h3] at h
          rw [if_pos h3, if_pos h3]
          have hga := good_adv hT hg h3 (bs_ne _ (by simp))
          have hI := go2_routineP hT hga hsa
          have c1 := globalsLoop_code hT hI.good hI.stk h
          obtain ⟨X, e1, hX⟩ := rel_globalsLoop hB hnn n (acc ++ [.func (routineP T (adv s)).1]) (lookRo E 3 (routineP T (adv s)).1).1 (routineP T (adv s)).2 hI.good c1 h
          refine ⟨.func (routineP T (adv s)).1 :: X, by rw [e1]; simp, ?_⟩
          rw [lookGls, lookGl]
          exact rel_step hT (rel_routineN (E := E) (kind := 3) hT hB hga hsa hnn c1) (nz_lookRo _ _ _) hX
        · rw [if_neg h3, if_neg h3]
          exact ⟨[], by simp, rfl, fun _ => rfl⟩

/-- The whole program: what is wrong first with its names. -/
theorem rel_program (hB : Br T) (hnn : ∀ s, Good T s → sees T (bs [41]) s = true → ¬ (cur T s).kind = .name) {s : PS} (hg : Good T s) (hc : s.code = 0) (h : (programP T s).2.code = 0) :
    (programN T (some E) s).code = (match lookPr E (programP T s).1 with | none => 0 | some x => x.1) ∧ (∀ x, lookPr E (programP T s).1 = some x → (programN T (some E) s).at_ = x.2) := by
  have hG0 := go2_globalsLoopN hT T.length none s hg (stk0 hc)
  rw [globalsLoopN_none T.length [] s] at hG0
  have hG : Go2 T s (globalsP T s).2 := hG0
  have hb := go2_want hT (f := bs [98, 101, 103, 105, 110]) (bs_ne _ (by simp)) hG.good hG.stk
  have hl := go2_list hT none 14 hb.good hb.stk
  have eB : (bodyP T (globalsP T s).2).2 = want T (bs [101, 110, 100]) (listOf T (stmtN T none 14) (want T (bs [98, 101, 103, 105, 110]) (globalsP T s).2)).2 := by unfold bodyP; rw [stmtN_none]
  have eB1 : (bodyP T (globalsP T s).2).1 = (listOf T (stmtN T none 14) (want T (bs [98, 101, 103, 105, 110]) (globalsP T s).2)).1 := by unfold bodyP; rw [stmtN_none]
  have h' : (endP T (want T (bs [46]) (bodyP T (globalsP T s).2).2)).code = 0 := h
  have c0 : (want T (bs [46]) (bodyP T (globalsP T s).2).2).code = 0 := by
    unfold endP at h'
    split at h'
    · exact h'
    · unfold fails at h'
      simp only at h'
      split at h'
      · cases h'
      · rename_i hz; exact absurd h' hz
  obtain ⟨c1, _, _⟩ := want_ok c0
  rw [eB] at c1
  obtain ⟨c2, _, _⟩ := want_ok c1
  have c3 := hl.code c2
  obtain ⟨c4, _, _⟩ := want_ok c3
  obtain ⟨X, e1, hX⟩ := rel_globalsLoop hT hB hnn T.length [] E s hg hc c4
  have e2 : (programP T s).1.globals = X := by show (globalsLoop T T.length [] s).1 = X; rw [e1]; rfl
  have e3 : (programP T s).1.body = (listOf T (stmtN T none 14) (want T (bs [98, 101, 103, 105, 110]) (globalsP T s).2)).1 := eB1
  have nz := nz_lookGls X E
  have hbody := rel_body_on (E := (lookGls E X).1) hT hB nz (m := (globalsLoopN T T.length (some E) s).1) hX.env hb.good c3 c2
  have nz2 := nz.or (nz_lookSts (lookGls E X).1 (listOf T (stmtN T none 14) (want T (bs [98, 101, 103, 105, 110]) (globalsP T s).2)).1)
  have eL : lookPr E (programP T s).1 = (lookGls E X).2.or (lookSts (lookGls E X).1 (listOf T (stmtN T none 14) (want T (bs [98, 101, 103, 105, 110]) (globalsP T s).2)).1) := by unfold lookPr; rw [e2, e3]
  have eN : programN T (some E) s = endP T (after T (lookPr E (programP T s).1) (want T (bs [46]) (want T (bs [101, 110, 100]) (listOf T (stmtN T none 14) (want T (bs [98, 101, 103, 105, 110]) (globalsP T s).2)).2))) := by
    show endP T (want T (bs [46]) (want T (bs [101, 110, 100]) (listOf T (stmtN T (globalsLoopN T T.length (some E) s).1 14) (want T (bs [98, 101, 103, 105, 110]) (globalsLoopN T T.length (some E) s).2)).2)) = _
    rw [hX.st, want_after hT (bs_ne _ (by simp)) nz]
    rw [show (globalsLoop T T.length [] s).2 = (globalsP T s).2 from rfl, hbody, want_after hT (bs_ne _ (by simp)) nz2, want_after hT (bs_ne _ (by simp)) nz2, eL]
  rw [eN]
  rw [← eL] at nz2
  cases hlk : lookPr E (programP T s).1 with
  | none =>
    refine ⟨?_, fun x hx => by cases hx⟩
    rw [after_none, ← eB]
    exact h'
  | some x =>
    rw [hlk] at nz2
    have hx := nz2 x rfl
    have e9 : endP T (after T (some x) (want T (bs [46]) (want T (bs [101, 110, 100]) (listOf T (stmtN T none 14) (want T (bs [98, 101, 103, 105, 110]) (globalsP T s).2)).2))) = stop T x.1 x.2 ∨ endP T (after T (some x) (want T (bs [46]) (want T (bs [101, 110, 100]) (listOf T (stmtN T none 14) (want T (bs [98, 101, 103, 105, 110]) (globalsP T s).2)).2))) = fails T 4 (stop T x.1 x.2) := by
      unfold endP
      split
      · exact .inl rfl
      · exact .inr rfl
    rw [show fails T 4 (stop T x.1 x.2) = stop T x.1 x.2 from fails_still 4 (fun _ => rfl) hx] at e9
    have e10 : endP T (after T (some x) (want T (bs [46]) (want T (bs [101, 110, 100]) (listOf T (stmtN T none 14) (want T (bs [98, 101, 103, 105, 110]) (globalsP T s).2)).2))) = stop T x.1 x.2 := by rcases e9 with h | h <;> exact h
    rw [e10]
    exact ⟨rfl, fun y hy => by cases hy; rfl⟩

end

end Go.Proofs.YtklobognaldjpaaGreat
