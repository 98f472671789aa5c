/- Plain functions, no program: what a text's tokens are, how they are read, what is told of their names. Plain functions, no program: how tokens are read into a tree. Plain functions: what is read goes  -/
import Derived.Lib.Strings
import Derived.Lib.Bytealg
import Derived.Lib.IndexLaws
namespace Go.Proofs.YtklobognaldjpaaGreat
inductive TK where
 | over | name | number | sign | keyword
 deriving DecidableEq, Inhabited
structure Tok where
 kind : TK
 text : ByteArray
 val : Nat
 pos : Nat
 deriving Inhabited
def isLetterB (c : Int) : Bool := decide (97 <= c /\ c <= 122)
def isDigitB (c : Int) : Bool := decide (48 <= c /\ c <= 57)
def letterB (c : UInt8) : Bool := isLetterB c.toNat
def digitB (c : UInt8) : Bool := isDigitB c.toNat
def gapSz (l : List UInt8) : Nat :=
 match l with
 | [] => 0
 | c :: _ => if c = 32 ∨ c = 10 then 1 else if c = 123 then (Lib.indexByte l 125 + 1).toNat else 0
def gap (l : List UInt8) (p : Nat) : Nat :=
 if p < l.length then
  if gapSz (l.drop p) = 0 then p else gap l (p + gapSz (l.drop p))
 else p
termination_by l.length - p
decreasing_by omega
def keywords : List (List UInt8) :=
 [[118, 97, 114], [112, 114, 111, 99], [102, 117, 110, 99], [98, 101, 103, 105, 110], [101, 110, 100], [105, 102], [116, 104, 101, 110], [101, 108, 115, 101], [119, 104, 105, 108, 101], [100, 111], [119, 114, 105, 116, 101], [114, 101, 97, 100], [97, 110, 100], [111, 114], [110, 111, 116]]
def signs : List UInt8 := [43, 45, 42, 47, 37, 61, 35, 60, 62, 40, 41, 91, 93, 44, 59, 46]
def wordLen (l : List UInt8) : Nat := (l.takeWhile fun c => letterB c || digitB c).length
def digLen (l : List UInt8) : Nat := (l.takeWhile digitB).length
def valOf (l : List UInt8) : Nat := l.foldl (fun n c => 10 * n + (c.toNat - 48)) 0
def maxNumber : Nat := 2147483647
def lex1 (l : List UInt8) : Except Nat (TK × Nat × Nat) :=
 match l with
 | [] => .error 2
 | c :: r =>
  if letterB c then .ok (if keywords.contains (l.take (wordLen l)) then .keyword else .name, wordLen l, 0)
  else if digitB c then (if valOf (l.take (digLen l)) > maxNumber then .error 3 else .ok (.number, digLen l, valOf (l.take (digLen l))))
  else if signs.contains c then .ok (.sign, 1, 0)
  else if c = 58 /\ r.head? = some 61 then .ok (.sign, 2, 0)
  else .error 2
theorem lex1_pos {l : List UInt8} {k : TK} {n v : Nat} (h : lex1 l = .ok (k, n, v)) : 1 <= n := by
 unfold lex1 at h
 split at h
 ·cases h
 ·rename_i c r
  split at h
  ·rename_i hl
   simp only [Except.ok.injEq, Prod.mk.injEq] at h
   obtain ⟨_, h, _⟩ := h
   rw [<- h]; simp [wordLen, hl]
  ·split at h
   ·rename_i hd
    split at h
    ·cases h
    ·simp only [Except.ok.injEq, Prod.mk.injEq] at h
     obtain ⟨_, h, _⟩ := h
     rw [<- h]; simp [digLen, hd]
   ·split at h
    ·simp only [Except.ok.injEq, Prod.mk.injEq] at h; omega
    ·split at h
     ·simp only [Except.ok.injEq, Prod.mk.injEq] at h; omega
     ·cases h
theorem gap_ge (l : List UInt8) (p : Nat) : p <= gap l p := by
 fun_induction gap l p <;> omega
def overTok (l : List UInt8) : Tok := ⟨.over, ⟨#[]⟩, 0, l.length⟩
def mkTok (l : List UInt8) (q : Nat) (x : TK × Nat × Nat) : Tok := ⟨x.1, ⟨((l.drop q).take x.2.1).toArray⟩, x.2.2, q⟩
def lexAt (l : List UInt8) (q : Nat) : Except (Nat × Nat) (List Tok) :=
 if q < l.length then
  match lex1 (l.drop q) with
  | .error c => .error (c, q)
  | .ok x =>
   match lexAt l (gap l (q + max 1 x.2.1)) with
   | .error e => .error e
   | .ok r => .ok (mkTok l q x :: r)
 else .ok [overTok l]
termination_by l.length - q
decreasing_by have := gap_ge l (q + max 1 x.2.1); omega
def lexAll (l : List UInt8) : Except (Nat × Nat) (List Tok) := lexAt l (gap l 0)
theorem lexAt_end {l : List UInt8} {q : Nat} (h : ¬ q < l.length) : lexAt l q = .ok [overTok l] := by
 rw [lexAt, if_neg h]
theorem lexAt_bad {l : List UInt8} {q c : Nat} (h : q < l.length) (hx : lex1 (l.drop q) = .error c) : lexAt l q = .error (c, q) := by
 rw [lexAt, if_pos h, hx]
theorem lexAt_ok {l : List UInt8} {q : Nat} {x : TK × Nat × Nat} (h : q < l.length) (hx : lex1 (l.drop q) = .ok x) :
  lexAt l q = match lexAt l (gap l (q + x.2.1)) with | .error e => .error e | .ok r => .ok (mkTok l q x :: r) := by
 have h1 := lex1_pos (k := x.1) (n := x.2.1) (v := x.2.2) hx
 rw [lexAt, if_pos h, hx]
 have e : max 1 x.2.1 = x.2.1 := by omega
 simp only [e]
inductive Ex where
 | nil
 | num (v : Nat)
 | var (n : ByteArray) (p : Nat)
 | elem (n : ByteArray) (p : Nat) (i : Ex)
 | call (n : ByteArray) (p : Nat) (args : List Ex)
 | bin (op : ByteArray) (l r : Ex)
 | un (op : ByteArray) (e : Ex)
inductive St where
 | nil
 | assign (n : ByteArray) (p : Nat) (e : Ex)
 | put (n : ByteArray) (p : Nat) (i e : Ex)
 | proc (n : ByteArray) (p : Nat) (args : List Ex)
 | ite (c : Ex) (t f : St)
 | loop (c : Ex) (b : St)
 | block (l : List St)
 | write (e : Ex)
 | read (n : ByteArray) (p : Nat)
structure Ro where
 name : ByteArray × Nat
 params : List (ByteArray × Nat)
 locals : List (ByteArray × Nat)
 body : List St
inductive Gl where
 | var (n : ByteArray) (p : Nat)
 | arr (n : ByteArray) (p size sizeAt : Nat)
 | proc (r : Ro)
 | func (r : Ro)
structure Pr where
 globals : List Gl
 body : List St
structure PS where
 code : Nat
 at_ : Nat
 next : Nat
def bs (l : List UInt8) : ByteArray := ⟨l.toArray⟩
section
variable (T : List Tok)
def cur (s : PS) : Tok := T.getD s.next default
def adv (s : PS) : PS := { s with next := s.next + 1 }
def sees (f : ByteArray) (s : PS) : Bool := (cur T s).text.toList == f.toList
def fails (c : Nat) (s : PS) : PS := { code := if s.code = 0 then c else s.code, at_ := if s.code = 0 then (cur T s).pos else s.at_, next := T.length - 1 }
def want (f : ByteArray) (s : PS) : PS := if sees T f s then adv s else fails T 4 s
def kindIs (k : TK) (s : PS) : Bool := decide ((cur T s).kind = k)
def nameP (s : PS) : (ByteArray × Nat) × PS := if kindIs T .name s then (((cur T s).text, (cur T s).pos), adv s) else ((⟨#[]⟩, 0), fails T 4 s)
def numP (s : PS) : (Nat × Nat) × PS := if kindIs T .number s then (((cur T s).val, (cur T s).pos), adv s) else ((0, 0), fails T 4 s)
def seesAny (fs : List ByteArray) (s : PS) : Bool := fs.any fun f => sees T f s
def chainLoop (part : PS -> Ex × PS) (fs : List ByteArray) : Nat -> Ex -> PS -> Ex × PS
 | 0, l, s => (l, s)
 | n + 1, l, s => if seesAny T fs s then chainLoop part fs n (.bin (cur T s).text l (part (adv s)).1) (part (adv s)).2 else (l, s)
def chain (part : PS -> Ex × PS) (fs : List ByteArray) (s : PS) : Ex × PS := chainLoop T part fs T.length (part s).1 (part s).2
def testOps : List ByteArray := [bs [61], bs [35], bs [60], bs [62]]
def mulOps : List ByteArray := [bs [42], bs [47], bs [37]]
def addOps : List ByteArray := [bs [43], bs [45]]
def andOps : List ByteArray := [bs [97, 110, 100]]
def orOps : List ByteArray := [bs [111, 114]]
def testP (sum : PS -> Ex × PS) (s : PS) : Ex × PS :=
 if seesAny T testOps (sum s).2 then (.bin (cur T (sum s).2).text (sum s).1 (sum (adv (sum s).2)).1, (sum (adv (sum s).2)).2) else sum s
def termOf (fac : PS -> Ex × PS) : PS -> Ex × PS := chain T fac mulOps
def sumOf (fac : PS -> Ex × PS) : PS -> Ex × PS := chain T (termOf T fac) addOps
def testOf (fac : PS -> Ex × PS) : PS -> Ex × PS := testP T (sumOf T fac)
def andOf (fac : PS -> Ex × PS) : PS -> Ex × PS := chain T (testOf T fac) andOps
def exprOf (fac : PS -> Ex × PS) : PS -> Ex × PS := chain T (andOf T fac) orOps
def argsLoop (ex : PS -> Ex × PS) : Nat -> List Ex -> PS -> List Ex × PS
 | 0, acc, s => (acc, s)
 | n + 1, acc, s => if sees T (bs [44]) s then argsLoop ex n (acc ++ [(ex (adv s)).1]) (ex (adv s)).2 else (acc, s)
def argsOf (ex : PS -> Ex × PS) (s : PS) : List Ex × PS :=
 if sees T (bs [41]) s then ([], adv s)
 else ((argsLoop T ex T.length [(ex s).1] (ex s).2).1, want T (bs [41]) (argsLoop T ex T.length [(ex s).1] (ex s).2).2)
def indexOf (ex : PS -> Ex × PS) (s : PS) : Ex × PS := ((ex s).1, want T (bs [93]) (ex s).2)
def namedFactor (ex : PS -> Ex × PS) (s : PS) : Ex × PS :=
 if sees T (bs [40]) (nameP T s).2 then (.call (nameP T s).1.1 (nameP T s).1.2 (argsOf T ex (adv (nameP T s).2)).1, (argsOf T ex (adv (nameP T s).2)).2)
 else if sees T (bs [91]) (nameP T s).2 then (.elem (nameP T s).1.1 (nameP T s).1.2 (indexOf T ex (adv (nameP T s).2)).1, (indexOf T ex (adv (nameP T s).2)).2)
 else (.var (nameP T s).1.1 (nameP T s).1.2, (nameP T s).2)
def factorD : Nat -> PS -> Ex × PS
 | 0, s => (.nil, fails T 5 s)
 | k + 1, s =>
  if kindIs T .number s then (.num (numP T s).1.1, (numP T s).2)
  else if kindIs T .name s then namedFactor T (exprOf T (factorD k)) s
  else if sees T (bs [40]) s then ((exprOf T (factorD k) (adv s)).1, want T (bs [41]) (exprOf T (factorD k) (adv s)).2)
  else if sees T (bs [45]) s then (.un (bs [45]) (factorD k (adv s)).1, (factorD k (adv s)).2)
  else if sees T (bs [110, 111, 116]) s then (.un (bs [110, 111, 116]) (factorD k (adv s)).1, (factorD k (adv s)).2)
  else (.nil, fails T 4 s)
def exprD (k : Nat) : PS -> Ex × PS := exprOf T (factorD T k)
def namedSt (ex : PS -> Ex × PS) (s : PS) : St × PS :=
 if sees T (bs [40]) (nameP T s).2 then (.proc (nameP T s).1.1 (nameP T s).1.2 (argsOf T ex (adv (nameP T s).2)).1, (argsOf T ex (adv (nameP T s).2)).2)
 else if sees T (bs [91]) (nameP T s).2 then
  (.put (nameP T s).1.1 (nameP T s).1.2 (indexOf T ex (adv (nameP T s).2)).1 (ex (want T (bs [58, 61]) (indexOf T ex (adv (nameP T s).2)).2)).1, (ex (want T (bs [58, 61]) (indexOf T ex (adv (nameP T s).2)).2)).2)
 else (.assign (nameP T s).1.1 (nameP T s).1.2 (ex (want T (bs [58, 61]) (nameP T s).2)).1, (ex (want T (bs [58, 61]) (nameP T s).2)).2)
def choiceSt (ex : PS -> Ex × PS) (st : PS -> St × PS) (s : PS) : St × PS :=
 if sees T (bs [101, 108, 115, 101]) (st (want T (bs [116, 104, 101, 110]) (ex s).2)).2 then
  (.ite (ex s).1 (st (want T (bs [116, 104, 101, 110]) (ex s).2)).1 (st (adv (st (want T (bs [116, 104, 101, 110]) (ex s).2)).2)).1, (st (adv (st (want T (bs [116, 104, 101, 110]) (ex s).2)).2)).2)
 else (.ite (ex s).1 (st (want T (bs [116, 104, 101, 110]) (ex s).2)).1 .nil, (st (want T (bs [116, 104, 101, 110]) (ex s).2)).2)
def whileSt (ex : PS -> Ex × PS) (st : PS -> St × PS) (s : PS) : St × PS :=
 (.loop (ex s).1 (st (want T (bs [100, 111]) (ex s).2)).1, (st (want T (bs [100, 111]) (ex s).2)).2)
def listOne (st : PS -> St × PS) (s : PS) : List St × PS :=
 if sees T (bs [59]) s || sees T (bs [101, 110, 100]) s then ([], s) else ([(st s).1], (st s).2)
def listLoop (st : PS -> St × PS) : Nat -> List St -> PS -> List St × PS
 | 0, acc, s => (acc, s)
 | n + 1, acc, s => if sees T (bs [59]) (listOne T st s).2 then listLoop st n (acc ++ (listOne T st s).1) (adv (listOne T st s).2) else (acc ++ (listOne T st s).1, (listOne T st s).2)
def listOf (st : PS -> St × PS) (s : PS) : List St × PS := listLoop T st T.length [] s
def stmtD : Nat -> PS -> St × PS
 | 0, s => (.nil, fails T 5 s)
 | k + 1, s =>
  if kindIs T .name s then namedSt T (exprD T k) s
  else if sees T (bs [105, 102]) s then choiceSt T (exprD T k) (stmtD k) (adv s)
  else if sees T (bs [119, 104, 105, 108, 101]) s then whileSt T (exprD T k) (stmtD k) (adv s)
  else if sees T (bs [98, 101, 103, 105, 110]) s then (.block (listOf T (stmtD k) (adv s)).1, want T (bs [101, 110, 100]) (listOf T (stmtD k) (adv s)).2)
  else if sees T (bs [119, 114, 105, 116, 101]) s then (.write (exprD T k (adv s)).1, (exprD T k (adv s)).2)
  else if sees T (bs [114, 101, 97, 100]) s then (.read (nameP T (adv s)).1.1 (nameP T (adv s)).1.2, (nameP T (adv s)).2)
  else (.nil, fails T 4 s)
def bodyP (s : PS) : List St × PS :=
 ((listOf T (stmtD T 14) (want T (bs [98, 101, 103, 105, 110]) s)).1, want T (bs [101, 110, 100]) (listOf T (stmtD T 14) (want T (bs [98, 101, 103, 105, 110]) s)).2)
def itemP (s : PS) : Gl × PS :=
 if sees T (bs [91]) (nameP T s).2 then
  (.arr (nameP T s).1.1 (nameP T s).1.2 (numP T (adv (nameP T s).2)).1.1 (numP T (adv (nameP T s).2)).1.2, want T (bs [93]) (numP T (adv (nameP T s).2)).2)
 else (.var (nameP T s).1.1 (nameP T s).1.2, (nameP T s).2)
def itemsLoop : Nat -> List Gl -> PS -> List Gl × PS
 | 0, acc, s => (acc, s)
 | n + 1, acc, s => if sees T (bs [44]) s then itemsLoop n (acc ++ [(itemP T (adv s)).1]) (itemP T (adv s)).2 else (acc, s)
def itemsP (s : PS) : List Gl × PS :=
 ((itemsLoop T T.length [(itemP T s).1] (itemP T s).2).1, want T (bs [59]) (itemsLoop T T.length [(itemP T s).1] (itemP T s).2).2)
def namesLoop : Nat -> List (ByteArray × Nat) -> PS -> List (ByteArray × Nat) × PS
 | 0, acc, s => (acc, s)
 | n + 1, acc, s => if sees T (bs [44]) s then namesLoop n (acc ++ [(nameP T (adv s)).1]) (nameP T (adv s)).2 else (acc, s)
def namesP (s : PS) : List (ByteArray × Nat) × PS := namesLoop T T.length [(nameP T s).1] (nameP T s).2
def paramsP (s : PS) : List (ByteArray × Nat) × PS := if sees T (bs [41]) s then ([], s) else namesP T s
def localsLoop : Nat -> List (ByteArray × Nat) -> PS -> List (ByteArray × Nat) × PS
 | 0, acc, s => (acc, s)
 | n + 1, acc, s => if sees T (bs [118, 97, 114]) s then localsLoop n (acc ++ (namesP T (adv s)).1) (want T (bs [59]) (namesP T (adv s)).2) else (acc, s)
def routineHead (s : PS) : List (ByteArray × Nat) × PS := paramsP T (want T (bs [40]) (nameP T s).2)
def routineLocals (s : PS) : List (ByteArray × Nat) × PS := localsLoop T T.length [] (want T (bs [41]) (routineHead T s).2)
def routineP (s : PS) : Ro × PS :=
 (⟨(nameP T s).1, (routineHead T s).1, (routineLocals T s).1, (bodyP T (routineLocals T s).2).1⟩, want T (bs [59]) (bodyP T (routineLocals T s).2).2)
def globalsLoop : Nat -> List Gl -> PS -> List Gl × PS
 | 0, acc, s => (acc, s)
 | n + 1, acc, s =>
  if sees T (bs [118, 97, 114]) s then globalsLoop n (acc ++ (itemsP T (adv s)).1) (itemsP T (adv s)).2
  else if sees T (bs [112, 114, 111, 99]) s then globalsLoop n (acc ++ [.proc (routineP T (adv s)).1]) (routineP T (adv s)).2
  else if sees T (bs [102, 117, 110, 99]) s then globalsLoop n (acc ++ [.func (routineP T (adv s)).1]) (routineP T (adv s)).2
  else (acc, s)
def globalsP (s : PS) : List Gl × PS := globalsLoop T T.length [] s
def endP (s : PS) : PS := if kindIs T .over s then s else fails T 4 s
def programP (s : PS) : Pr × PS :=
 (⟨(globalsP T s).1, (bodyP T (globalsP T s).2).1⟩, endP T (want T (bs [46]) (bodyP T (globalsP T s).2).2))
end
structure Toks (T : List Tok) : Prop where
 pos : 0 < T.length
 last : ∀ t, T[T.length - 1]? = some t -> t.kind = .over /\ t.text.toList = []
def Good (T : List Tok) (s : PS) : Prop := s.next < T.length
def Mon (T : List Tok) {α : Type} (f : PS -> α × PS) : Prop := ∀ s, Good T s -> Good T (f s).2 /\ s.next <= (f s).2.next
section
variable {T : List Tok} (hT : Toks T)
include hT
theorem cur_last (s : PS) (h : s.next = T.length - 1) : (cur T s).kind = .over /\ (cur T s).text.toList = [] := by
 have hp := hT.pos
 have e : T[T.length - 1]? = some (T[T.length - 1]'(by omega)) := List.getElem?_eq_getElem (by omega)
 have := hT.last _ e
 have c : cur T s = T[T.length - 1]'(by omega) := by
  unfold cur; rw [h, List.getD_eq_getElem?_getD, e]; rfl
 rw [c]; exact this
theorem good_adv {f : ByteArray} {s : PS} (hg : Good T s) (h : sees T f s = true) (hf : f.toList ≠ []) : Good T (adv s) := by
 have hp := hT.pos
 unfold Good at *
 by_cases e : s.next = T.length - 1
 ·have := (cur_last hT s e).2
  unfold sees at h
  rw [this] at h
  simp at h
  exact absurd h.symm (by simpa using hf)
 ·show s.next + 1 < T.length
  omega
theorem good_adv_kind {k : TK} {s : PS} (hg : Good T s) (h : kindIs T k s = true) (hk : k ≠ .over) : Good T (adv s) := by
 have hp := hT.pos
 unfold Good at *
 by_cases e : s.next = T.length - 1
 ·have := (cur_last hT s e).1
  unfold kindIs at h
  simp at h
  rw [this] at h
  exact absurd h.symm hk
 ·show s.next + 1 < T.length
  omega
theorem good_fails (c : Nat) (s : PS) : Good T (fails T c s) := by
 have hp := hT.pos
 show T.length - 1 < T.length
 omega
omit hT in
theorem le_fails (c : Nat) {s : PS} (hg : Good T s) : s.next <= (fails T c s).next := by
 unfold Good at hg
 show s.next <= T.length - 1
 omega
theorem mon_want {f : ByteArray} (hf : f.toList ≠ []) {s : PS} (hg : Good T s) : Good T (want T f s) /\ s.next <= (want T f s).next := by
 unfold want
 split
 ·rename_i h; exact ⟨good_adv hT hg h hf, Nat.le_succ _⟩
 ·exact ⟨good_fails hT 4 s, le_fails 4 hg⟩
theorem mon_nameP : Mon T (nameP T) := by
 intro s hg
 unfold nameP
 split
 ·rename_i h; exact ⟨good_adv_kind hT hg h (by decide), Nat.le_succ _⟩
 ·exact ⟨good_fails hT 4 s, le_fails 4 hg⟩
theorem mon_numP : Mon T (numP T) := by
 intro s hg
 unfold numP
 split
 ·rename_i h; exact ⟨good_adv_kind hT hg h (by decide), Nat.le_succ _⟩
 ·exact ⟨good_fails hT 4 s, le_fails 4 hg⟩
end
theorem bs_ne (l : List UInt8) (h : l ≠ []) : (bs l).toList ≠ [] := by
 rw [Lib.toList_data]; exact h
section
variable {T : List Tok} (hT : Toks T)
include hT
theorem mon_chainLoop {pf : PS -> Ex × PS} (hM : Mon T pf) {fs : List ByteArray} (hfs : ∀ f ∈ fs, f.toList ≠ []) : ∀ (n : Nat) (l : Ex) (s : PS), Good T s -> Good T (chainLoop T pf fs n l s).2 /\ s.next <= (chainLoop T pf fs n l s).2.next
 | 0, l, s, hg => ⟨hg, Nat.le_refl _⟩
 | n + 1, l, s, hg => by
  rw [chainLoop]
  split
  ·rename_i h
   unfold seesAny at h
   rw [List.any_eq_true] at h
   obtain ⟨f, hf, h⟩ := h
   have hga := good_adv hT hg h (hfs f hf)
   have h1 := hM (adv s) hga
   have h2 := mon_chainLoop hM hfs n (.bin (cur T s).text l (pf (adv s)).1) (pf (adv s)).2 h1.1
   have e : (adv s).next = s.next + 1 := rfl
   exact ⟨h2.1, by omega⟩
  ·exact ⟨hg, Nat.le_refl _⟩
theorem mon_chain {pf : PS -> Ex × PS} (hM : Mon T pf) {fs : List ByteArray} (hfs : ∀ f ∈ fs, f.toList ≠ []) : Mon T (chain T pf fs) := by
 intro s hg
 have h1 := hM s hg
 have h2 := mon_chainLoop hT hM hfs T.length (pf s).1 (pf s).2 h1.1
 exact ⟨h2.1, Nat.le_trans h1.2 h2.2⟩
omit hT in
theorem ops_ne : (∀ f ∈ mulOps, f.toList ≠ []) /\ (∀ f ∈ addOps, f.toList ≠ []) /\ (∀ f ∈ testOps, f.toList ≠ []) /\ (∀ f ∈ andOps, f.toList ≠ []) /\ (∀ f ∈ orOps, f.toList ≠ []) := by
 refine ⟨?_, ?_, ?_, ?_, ?_⟩ <;> intro f hf <;> simp only [mulOps, addOps, testOps, andOps, orOps, List.mem_cons, List.not_mem_nil, or_false] at hf <;> rcases hf with rfl | rfl | rfl | rfl <;> exact bs_ne _ (by simp)
theorem mon_termOf {pf : PS -> Ex × PS} (hM : Mon T pf) : Mon T (termOf T pf) := mon_chain hT hM ops_ne.1
theorem mon_sumOf {pf : PS -> Ex × PS} (hM : Mon T pf) : Mon T (sumOf T pf) := mon_chain hT (mon_termOf hT hM) ops_ne.2.1
theorem mon_testP {pf : PS -> Ex × PS} (hM : Mon T pf) : Mon T (testP T pf) := by
 intro s hg
 have h1 := hM s hg
 unfold testP
 split
 ·rename_i h
  unfold seesAny at h
  rw [List.any_eq_true] at h
  obtain ⟨f, hf, h⟩ := h
  have hga := good_adv hT h1.1 h (ops_ne.2.2.1 f hf)
  have h2 := hM (adv (pf s).2) hga
  have e : (adv (pf s).2).next = (pf s).2.next + 1 := rfl
  have h3 := h1.2
  exact ⟨h2.1, by have := h2.2; show s.next <= (pf (adv (pf s).2)).2.next; omega⟩
 ·exact h1
theorem mon_testOf {pf : PS -> Ex × PS} (hM : Mon T pf) : Mon T (testOf T pf) := mon_testP hT (mon_sumOf hT hM)
theorem mon_andOf {pf : PS -> Ex × PS} (hM : Mon T pf) : Mon T (andOf T pf) := mon_chain hT (mon_testOf hT hM) ops_ne.2.2.2.1
theorem mon_exprOf {pf : PS -> Ex × PS} (hM : Mon T pf) : Mon T (exprOf T pf) := mon_chain hT (mon_andOf hT hM) ops_ne.2.2.2.2
theorem mon_argsLoop {pf : PS -> Ex × PS} (hM : Mon T pf) : ∀ (n : Nat) (l : List Ex) (s : PS), Good T s -> Good T (argsLoop T pf n l s).2 /\ s.next <= (argsLoop T pf n l s).2.next
 | 0, l, s, hg => ⟨hg, Nat.le_refl _⟩
 | n + 1, l, s, hg => by
  rw [argsLoop]
  split
  ·rename_i h
   have hga := good_adv hT hg h (bs_ne _ (by simp))
   have h1 := hM (adv s) hga
   have h2 := mon_argsLoop hM n (l ++ [(pf (adv s)).1]) (pf (adv s)).2 h1.1
   have e : (adv s).next = s.next + 1 := rfl
   exact ⟨h2.1, by omega⟩
  ·exact ⟨hg, Nat.le_refl _⟩
theorem mon_argsOf {pf : PS -> Ex × PS} (hM : Mon T pf) : Mon T (argsOf T pf) := by
 intro s hg
 unfold argsOf
 split
 ·rename_i h; exact ⟨good_adv hT hg h (bs_ne _ (by simp)), Nat.le_succ _⟩
 ·have h1 := hM s hg
  have h2 := mon_argsLoop hT hM T.length [(pf s).1] (pf s).2 h1.1
  have h3 := mon_want hT (f := bs [41]) (bs_ne _ (by simp)) h2.1
  exact ⟨h3.1, Nat.le_trans h1.2 (Nat.le_trans h2.2 h3.2)⟩
theorem mon_indexOf {pf : PS -> Ex × PS} (hM : Mon T pf) : Mon T (indexOf T pf) := by
 intro s hg
 have h1 := hM s hg
 have h3 := mon_want hT (f := bs [93]) (bs_ne _ (by simp)) h1.1
 exact ⟨h3.1, Nat.le_trans h1.2 h3.2⟩
theorem step_adv {α : Type} {f : PS -> α × PS} (hM : Mon T f) {x : ByteArray} (hx : x.toList ≠ []) {s : PS} (hg : Good T s) (h : sees T x s = true) : Good T (f (adv s)).2 /\ s.next <= (f (adv s)).2.next := by
 have h1 := hM (adv s) (good_adv hT hg h hx)
 have e : (adv s).next = s.next + 1 := rfl
 exact ⟨h1.1, by omega⟩
theorem mon_namedFactor {pf : PS -> Ex × PS} (hM : Mon T pf) : Mon T (namedFactor T pf) := by
 intro s hg
 have h1 := mon_nameP hT s hg
 unfold namedFactor
 split
 ·rename_i h
  have h2 := step_adv hT (mon_argsOf hT hM) (bs_ne _ (by simp)) h1.1 h
  exact ⟨h2.1, Nat.le_trans h1.2 h2.2⟩
 ·split
  ·rename_i h
   have h2 := step_adv hT (mon_indexOf hT hM) (bs_ne _ (by simp)) h1.1 h
   exact ⟨h2.1, Nat.le_trans h1.2 h2.2⟩
  ·exact h1
theorem mon_factorD : ∀ k, Mon T (factorD T k)
 | 0 => fun s hg => ⟨good_fails hT 5 s, le_fails 5 hg⟩
 | k + 1 => fun s hg => by
  have ih := mon_factorD k
  have hx := mon_exprOf hT ih
  rw [factorD]
  split
  ·exact mon_numP hT s hg
  ·split
   ·exact mon_namedFactor hT hx s hg
   ·split
    ·rename_i h
     have h2 := step_adv hT hx (bs_ne _ (by simp)) hg h
     have h3 := mon_want hT (f := bs [41]) (bs_ne _ (by simp)) h2.1
     exact ⟨h3.1, Nat.le_trans h2.2 h3.2⟩
    ·split
     ·rename_i h; exact step_adv hT ih (bs_ne _ (by simp)) hg h
     ·split
      ·rename_i h; exact step_adv hT ih (bs_ne _ (by simp)) hg h
      ·exact ⟨good_fails hT 4 s, le_fails 4 hg⟩
theorem mon_exprD (k : Nat) : Mon T (exprD T k) := mon_exprOf hT (mon_factorD hT k)
end
section
variable {T : List Tok} (hT : Toks T)
include hT
theorem mon_after {α : Type} {f : PS -> α × PS} (hM : Mon T f) {x : ByteArray} (hx : x.toList ≠ []) {s : PS} (hg : Good T s) : Good T (f (want T x s)).2 /\ s.next <= (f (want T x s)).2.next := by
 have h1 := mon_want hT hx hg
 have h2 := hM (want T x s) h1.1
 exact ⟨h2.1, Nat.le_trans h1.2 h2.2⟩
theorem mon_namedSt {ex : PS -> Ex × PS} (hM : Mon T ex) : Mon T (namedSt T ex) := by
 intro s hg
 have h1 := mon_nameP hT s hg
 unfold namedSt
 split
 ·rename_i h
  have h2 := step_adv hT (mon_argsOf hT hM) (bs_ne _ (by simp)) h1.1 h
  exact ⟨h2.1, Nat.le_trans h1.2 h2.2⟩
 ·split
  ·rename_i h
   have h2 := step_adv hT (mon_indexOf hT hM) (bs_ne _ (by simp)) h1.1 h
   have h3 := mon_after hT hM (bs_ne [58, 61] (by simp)) h2.1
   exact ⟨h3.1, Nat.le_trans h1.2 (Nat.le_trans h2.2 h3.2)⟩
  ·have h3 := mon_after hT hM (bs_ne [58, 61] (by simp)) h1.1
   exact ⟨h3.1, Nat.le_trans h1.2 h3.2⟩
theorem mon_choiceSt {ex : PS -> Ex × PS} (hM : Mon T ex) {st : PS -> St × PS} (hS : Mon T st) : Mon T (choiceSt T ex st) := by
 intro s hg
 have h1 := hM s hg
 have h2 := mon_after hT hS (bs_ne [116, 104, 101, 110] (by simp)) h1.1
 unfold choiceSt
 split
 ·rename_i h
  have h3 := step_adv hT hS (bs_ne _ (by simp)) h2.1 h
  exact ⟨h3.1, Nat.le_trans h1.2 (Nat.le_trans h2.2 h3.2)⟩
 ·exact ⟨h2.1, Nat.le_trans h1.2 h2.2⟩
theorem mon_whileSt {ex : PS -> Ex × PS} (hM : Mon T ex) {st : PS -> St × PS} (hS : Mon T st) : Mon T (whileSt T ex st) := by
 intro s hg
 have h1 := hM s hg
 have h2 := mon_after hT hS (bs_ne [100, 111] (by simp)) h1.1
 exact ⟨h2.1, Nat.le_trans h1.2 h2.2⟩
omit hT in
theorem mon_listOne {st : PS -> St × PS} (hS : Mon T st) : Mon T (listOne T st) := by
 intro s hg
 unfold listOne
 split
 ·exact ⟨hg, Nat.le_refl _⟩
 ·exact hS s hg
theorem mon_listLoop {st : PS -> St × PS} (hS : Mon T st) : ∀ (n : Nat) (l : List St) (s : PS), Good T s -> Good T (listLoop T st n l s).2 /\ s.next <= (listLoop T st n l s).2.next
 | 0, l, s, hg => ⟨hg, Nat.le_refl _⟩
 | n + 1, l, s, hg => by
  have h1 := mon_listOne hS s hg
  rw [listLoop]
  split
  ·rename_i h
   have hga := good_adv hT h1.1 h (bs_ne _ (by simp))
   have h2 := mon_listLoop hS n (l ++ (listOne T st s).1) (adv (listOne T st s).2) hga
   have e : (adv (listOne T st s).2).next = (listOne T st s).2.next + 1 := rfl
   have := h1.2
   exact ⟨h2.1, by omega⟩
  ·exact h1
theorem mon_listOf {st : PS -> St × PS} (hS : Mon T st) : Mon T (listOf T st) := fun s hg => mon_listLoop hT hS T.length [] s hg
theorem mon_stmtD : ∀ k, Mon T (stmtD T k)
 | 0 => fun s hg => ⟨good_fails hT 5 s, le_fails 5 hg⟩
 | k + 1 => fun s hg => by
  have ih := mon_stmtD k
  have hx := mon_exprD hT k
  rw [stmtD]
  split
  ·exact mon_namedSt hT hx s hg
  ·split
   ·rename_i h; exact step_adv hT (mon_choiceSt hT hx ih) (bs_ne _ (by simp)) hg h
   ·split
    ·rename_i h; exact step_adv hT (mon_whileSt hT hx ih) (bs_ne _ (by simp)) hg h
    ·split
     ·rename_i h
      have h2 := step_adv hT (mon_listOf hT ih) (bs_ne _ (by simp)) hg h
      have h3 := mon_want hT (f := bs [101, 110, 100]) (bs_ne _ (by simp)) h2.1
      exact ⟨h3.1, Nat.le_trans h2.2 h3.2⟩
     ·split
      ·rename_i h; exact step_adv hT hx (bs_ne _ (by simp)) hg h
      ·split
       ·rename_i h; exact step_adv hT (mon_nameP hT) (bs_ne _ (by simp)) hg h
       ·exact ⟨good_fails hT 4 s, le_fails 4 hg⟩
theorem mon_bodyP : Mon T (bodyP T) := by
 intro s hg
 have h1 := mon_after hT (mon_listOf hT (mon_stmtD hT 14)) (bs_ne [98, 101, 103, 105, 110] (by simp)) hg
 have h3 := mon_want hT (f := bs [101, 110, 100]) (bs_ne _ (by simp)) h1.1
 exact ⟨h3.1, Nat.le_trans h1.2 h3.2⟩
theorem mon_itemP : Mon T (itemP T) := by
 intro s hg
 have h1 := mon_nameP hT s hg
 unfold itemP
 split
 ·rename_i h
  have h2 := step_adv hT (mon_numP hT) (bs_ne _ (by simp)) h1.1 h
  have h3 := mon_want hT (f := bs [93]) (bs_ne _ (by simp)) h2.1
  exact ⟨h3.1, Nat.le_trans h1.2 (Nat.le_trans h2.2 h3.2)⟩
 ·exact h1
theorem mon_itemsLoop : ∀ (n : Nat) (l : List Gl) (s : PS), Good T s -> Good T (itemsLoop T n l s).2 /\ s.next <= (itemsLoop T n l s).2.next
 | 0, l, s, hg => ⟨hg, Nat.le_refl _⟩
 | n + 1, l, s, hg => by
  rw [itemsLoop]
  split
  ·rename_i h
   have h1 := step_adv hT (mon_itemP hT) (bs_ne _ (by simp)) hg h
   have h2 := mon_itemsLoop n (l ++ [(itemP T (adv s)).1]) (itemP T (adv s)).2 h1.1
   exact ⟨h2.1, Nat.le_trans h1.2 h2.2⟩
  ·exact ⟨hg, Nat.le_refl _⟩
theorem mon_itemsP : Mon T (itemsP T) := by
 intro s hg
 have h1 := mon_itemP hT s hg
 have h2 := mon_itemsLoop hT T.length [(itemP T s).1] (itemP T s).2 h1.1
 have h3 := mon_want hT (f := bs [59]) (bs_ne _ (by simp)) h2.1
 exact ⟨h3.1, Nat.le_trans h1.2 (Nat.le_trans h2.2 h3.2)⟩
theorem mon_namesLoop : ∀ (n : Nat) (l : List (ByteArray × Nat)) (s : PS), Good T s -> Good T (namesLoop T n l s).2 /\ s.next <= (namesLoop T n l s).2.next
 | 0, l, s, hg => ⟨hg, Nat.le_refl _⟩
 | n + 1, l, s, hg => by
  rw [namesLoop]
  split
  ·rename_i h
   have h1 := step_adv hT (mon_nameP hT) (bs_ne _ (by simp)) hg h
   have h2 := mon_namesLoop n (l ++ [(nameP T (adv s)).1]) (nameP T (adv s)).2 h1.1
   exact ⟨h2.1, Nat.le_trans h1.2 h2.2⟩
  ·exact ⟨hg, Nat.le_refl _⟩
theorem mon_namesP : Mon T (namesP T) := by
 intro s hg
 have h1 := mon_nameP hT s hg
 have h2 := mon_namesLoop hT T.length [(nameP T s).1] (nameP T s).2 h1.1
 exact ⟨h2.1, Nat.le_trans h1.2 h2.2⟩
theorem mon_paramsP : Mon T (paramsP T) := by
 intro s hg
 unfold paramsP
 split
 ·exact ⟨hg, Nat.le_refl _⟩
 ·exact mon_namesP hT s hg
theorem mon_localsLoop : ∀ (n : Nat) (l : List (ByteArray × Nat)) (s : PS), Good T s -> Good T (localsLoop T n l s).2 /\ s.next <= (localsLoop T n l s).2.next
 | 0, l, s, hg => ⟨hg, Nat.le_refl _⟩
 | n + 1, l, s, hg => by
  rw [localsLoop]
  split
  ·rename_i h
   have h1 := step_adv hT (mon_namesP hT) (bs_ne _ (by simp)) hg h
   have h3 := mon_want hT (f := bs [59]) (bs_ne _ (by simp)) h1.1
   have h2 := mon_localsLoop n (l ++ (namesP T (adv s)).1) (want T (bs [59]) (namesP T (adv s)).2) h3.1
   exact ⟨h2.1, Nat.le_trans h1.2 (Nat.le_trans h3.2 h2.2)⟩
  ·exact ⟨hg, Nat.le_refl _⟩
theorem mon_routineHead : Mon T (routineHead T) := by
 intro s hg
 have h1 := mon_nameP hT s hg
 have h2 := mon_after hT (mon_paramsP hT) (bs_ne [40] (by simp)) h1.1
 exact ⟨h2.1, Nat.le_trans h1.2 h2.2⟩
theorem mon_routineLocals : Mon T (routineLocals T) := by
 intro s hg
 have h1 := mon_routineHead hT s hg
 have h2 := mon_want hT (f := bs [41]) (bs_ne _ (by simp)) h1.1
 have h3 := mon_localsLoop hT T.length [] (want T (bs [41]) (routineHead T s).2) h2.1
 exact ⟨h3.1, Nat.le_trans h1.2 (Nat.le_trans h2.2 h3.2)⟩
theorem mon_routineP : Mon T (routineP T) := by
 intro s hg
 have h1 := mon_routineLocals hT s hg
 have h2 := mon_bodyP hT (routineLocals T s).2 h1.1
 have h3 := mon_want hT (f := bs [59]) (bs_ne _ (by simp)) h2.1
 exact ⟨h3.1, Nat.le_trans h1.2 (Nat.le_trans h2.2 h3.2)⟩
theorem mon_globalsLoop : ∀ (n : Nat) (l : List Gl) (s : PS), Good T s -> Good T (globalsLoop T n l s).2 /\ s.next <= (globalsLoop T n l s).2.next
 | 0, l, s, hg => ⟨hg, Nat.le_refl _⟩
 | n + 1, l, s, hg => by
  rw [globalsLoop]
  split
  ·rename_i h
   have h1 := step_adv hT (mon_itemsP hT) (bs_ne _ (by simp)) hg h
   have h2 := mon_globalsLoop n (l ++ (itemsP T (adv s)).1) (itemsP T (adv s)).2 h1.1
   exact ⟨h2.1, Nat.le_trans h1.2 h2.2⟩
  ·split
   ·rename_i h
    have h1 := step_adv hT (mon_routineP hT) (bs_ne _ (by simp)) hg h
    have h2 := mon_globalsLoop n (l ++ [.proc (routineP T (adv s)).1]) (routineP T (adv s)).2 h1.1
    exact ⟨h2.1, Nat.le_trans h1.2 h2.2⟩
   ·split
    ·rename_i h
     have h1 := step_adv hT (mon_routineP hT) (bs_ne _ (by simp)) hg h
     have h2 := mon_globalsLoop n (l ++ [.func (routineP T (adv s)).1]) (routineP T (adv s)).2 h1.1
     exact ⟨h2.1, Nat.le_trans h1.2 h2.2⟩
    ·exact ⟨hg, Nat.le_refl _⟩
theorem mon_globalsP : Mon T (globalsP T) := fun s hg => mon_globalsLoop hT T.length [] s hg
end
def Stk (T : List Tok) (s : PS) : Prop := s.code ≠ 0 -> s.next = T.length - 1
def SM (T : List Tok) {α : Type} (f : PS -> α × PS) : Prop := ∀ s, Stk T s -> Stk T (f s).2 /\ (s.code ≠ 0 -> (f s).2 = s)
section
variable {T : List Tok} (hT : Toks T)
theorem stk_fails (c : Nat) (s : PS) : Stk T (fails T c s) := fun _ => rfl
theorem stk_adv {s : PS} (h : s.code = 0) : Stk T (adv s) := fun hc => absurd h hc
theorem fails_still (c : Nat) {s : PS} (hs : Stk T s) (hc : s.code ≠ 0) : fails T c s = s := by
 have := hs hc
 cases s
 simp only [fails] at *
 simp only [if_neg hc, this]
include hT
theorem sees_stuck {s : PS} (hs : Stk T s) (hc : s.code ≠ 0) {f : ByteArray} (hf : f.toList ≠ []) : sees T f s = false := by
 have := (cur_last hT s (hs hc)).2
 unfold sees
 rw [this]
 cases h : f.toList with
 | nil => exact absurd h hf
 | cons a l => rfl
theorem code_of_sees {s : PS} (hs : Stk T s) {f : ByteArray} (hf : f.toList ≠ []) (h : sees T f s = true) : s.code = 0 := by
 by_cases hc : s.code = 0
 ·exact hc
 ·rw [sees_stuck hT hs hc hf] at h; cases h
theorem code_of_kind {s : PS} (hs : Stk T s) {k : TK} (hk : k ≠ .over) (h : kindIs T k s = true) : s.code = 0 := by
 by_cases hc : s.code = 0
 ·exact hc
 ·have := (cur_last hT s (hs hc)).1
  unfold kindIs at h
  simp at h
  rw [this] at h
  exact absurd h.symm hk
theorem sm_want {f : ByteArray} (hf : f.toList ≠ []) {s : PS} (hs : Stk T s) : Stk T (want T f s) /\ (s.code ≠ 0 -> want T f s = s) := by
 unfold want
 split
 ·rename_i h
  have hc := code_of_sees hT hs hf h
  exact ⟨stk_adv hc, fun h => absurd hc h⟩
 ·exact ⟨stk_fails 4 s, fails_still 4 hs⟩
theorem sm_nameP : SM T (nameP T) := by
 intro s hs
 unfold nameP
 split
 ·rename_i h
  have hc := code_of_kind hT hs (by decide) h
  exact ⟨stk_adv hc, fun h => absurd hc h⟩
 ·exact ⟨stk_fails 4 s, fails_still 4 hs⟩
theorem sm_numP : SM T (numP T) := by
 intro s hs
 unfold numP
 split
 ·rename_i h
  have hc := code_of_kind hT hs (by decide) h
  exact ⟨stk_adv hc, fun h => absurd hc h⟩
 ·exact ⟨stk_fails 4 s, fails_still 4 hs⟩
theorem code_of_any {s : PS} (hs : Stk T s) {fs : List ByteArray} (hfs : ∀ f ∈ fs, f.toList ≠ []) (h : seesAny T fs s = true) : s.code = 0 := by
 unfold seesAny at h
 rw [List.any_eq_true] at h
 obtain ⟨f, hf, h⟩ := h
 exact code_of_sees hT hs (hfs f hf) h
theorem sm_chainLoop {pf : PS -> Ex × PS} (hM : SM T pf) {fs : List ByteArray} (hfs : ∀ f ∈ fs, f.toList ≠ []) : ∀ (n : Nat) (l : Ex) (s : PS), Stk T s -> Stk T (chainLoop T pf fs n l s).2 /\ (s.code ≠ 0 -> (chainLoop T pf fs n l s).2 = s)
 | 0, l, s, hs => ⟨hs, fun _ => rfl⟩
 | n + 1, l, s, hs => by
  rw [chainLoop]
  split
  ·rename_i h
   have hc := code_of_any hT hs hfs h
   have h1 := hM (adv s) (stk_adv hc)
   have h2 := sm_chainLoop hM hfs n (.bin (cur T s).text l (pf (adv s)).1) (pf (adv s)).2 h1.1
   exact ⟨h2.1, fun h => absurd hc h⟩
  ·exact ⟨hs, fun _ => rfl⟩
theorem sm_chain {pf : PS -> Ex × PS} (hM : SM T pf) {fs : List ByteArray} (hfs : ∀ f ∈ fs, f.toList ≠ []) : SM T (chain T pf fs) := by
 intro s hs
 have h1 := hM s hs
 have h2 := sm_chainLoop hT hM hfs T.length (pf s).1 (pf s).2 h1.1
 refine ⟨h2.1, fun hc => ?_⟩
 have e := h1.2 hc
 show (chainLoop T pf fs T.length (pf s).1 (pf s).2).2 = s
 rw [h2.2 (by rw [e]; exact hc), e]
theorem sm_termOf {pf : PS -> Ex × PS} (hM : SM T pf) : SM T (termOf T pf) := sm_chain hT hM ops_ne.1
theorem sm_sumOf {pf : PS -> Ex × PS} (hM : SM T pf) : SM T (sumOf T pf) := sm_chain hT (sm_termOf hT hM) ops_ne.2.1
theorem sm_testP {pf : PS -> Ex × PS} (hM : SM T pf) : SM T (testP T pf) := by
 intro s hs
 have h1 := hM s hs
 unfold testP
 split
 ·rename_i h
  have hc := code_of_any hT h1.1 ops_ne.2.2.1 h
  have h2 := hM (adv (pf s).2) (stk_adv hc)
  refine ⟨h2.1, fun hc0 => ?_⟩
  rw [h1.2 hc0] at hc
  exact absurd hc hc0
 ·exact h1
theorem sm_testOf {pf : PS -> Ex × PS} (hM : SM T pf) : SM T (testOf T pf) := sm_testP hT (sm_sumOf hT hM)
theorem sm_andOf {pf : PS -> Ex × PS} (hM : SM T pf) : SM T (andOf T pf) := sm_chain hT (sm_testOf hT hM) ops_ne.2.2.2.1
theorem sm_exprOf {pf : PS -> Ex × PS} (hM : SM T pf) : SM T (exprOf T pf) := sm_chain hT (sm_andOf hT hM) ops_ne.2.2.2.2
theorem sm_argsLoop {pf : PS -> Ex × PS} (hM : SM T pf) : ∀ (n : Nat) (l : List Ex) (s : PS), Stk T s -> Stk T (argsLoop T pf n l s).2 /\ (s.code ≠ 0 -> (argsLoop T pf n l s).2 = s)
 | 0, l, s, hs => ⟨hs, fun _ => rfl⟩
 | n + 1, l, s, hs => by
  rw [argsLoop]
  split
  ·rename_i h
   have hc := code_of_sees hT hs (bs_ne _ (by simp)) h
   have h1 := hM (adv s) (stk_adv hc)
   have h2 := sm_argsLoop hM n (l ++ [(pf (adv s)).1]) (pf (adv s)).2 h1.1
   exact ⟨h2.1, fun h => absurd hc h⟩
  ·exact ⟨hs, fun _ => rfl⟩
omit hT in
theorem sm_then {s1 s2 s : PS} (h1 : Stk T s1 /\ (s.code ≠ 0 -> s1 = s)) (h2 : Stk T s1 -> Stk T s2 /\ (s1.code ≠ 0 -> s2 = s1)) : Stk T s2 /\ (s.code ≠ 0 -> s2 = s) :=
 ⟨(h2 h1.1).1, fun hc => by have e := h1.2 hc; rw [(h2 h1.1).2 (by rw [e]; exact hc), e]⟩
theorem sm_argsOf {pf : PS -> Ex × PS} (hM : SM T pf) : SM T (argsOf T pf) := by
 intro s hs
 unfold argsOf
 split
 ·rename_i h
  have hc := code_of_sees hT hs (bs_ne _ (by simp)) h
  exact ⟨stk_adv hc, fun h => absurd hc h⟩
 ·exact sm_then (sm_then (hM s hs) (sm_argsLoop hT hM T.length [(pf s).1] (pf s).2)) (sm_want hT (bs_ne [41] (by simp)))
theorem sm_indexOf {pf : PS -> Ex × PS} (hM : SM T pf) : SM T (indexOf T pf) := fun s hs => sm_then (hM s hs) (sm_want hT (bs_ne [93] (by simp)))
theorem sm_step {α : Type} {f : PS -> α × PS} (hM : SM T f) {x : ByteArray} (hx : x.toList ≠ []) {s : PS} (hs : Stk T s) (h : sees T x s = true) : Stk T (f (adv s)).2 /\ (s.code ≠ 0 -> (f (adv s)).2 = s) := by
 have hc := code_of_sees hT hs hx h
 exact ⟨(hM (adv s) (stk_adv hc)).1, fun h => absurd hc h⟩
theorem sm_after {α : Type} {f : PS -> α × PS} (hM : SM T f) {x : ByteArray} (hx : x.toList ≠ []) {s : PS} (hs : Stk T s) : Stk T (f (want T x s)).2 /\ (s.code ≠ 0 -> (f (want T x s)).2 = s) :=
 sm_then (sm_want hT hx hs) (hM _)
theorem sm_choiceSt {ex : PS -> Ex × PS} (hM : SM T ex) {st : PS -> St × PS} (hS : SM T st) : SM T (choiceSt T ex st) := by
 intro s hs
 have h2 := sm_then (hM s hs) (sm_after hT hS (bs_ne [116, 104, 101, 110] (by simp)))
 unfold choiceSt
 split
 ·rename_i h; exact sm_then h2 (fun h0 => sm_step hT hS (bs_ne _ (by simp)) h0 h)
 ·exact h2
theorem sm_whileSt {ex : PS -> Ex × PS} (hM : SM T ex) {st : PS -> St × PS} (hS : SM T st) : SM T (whileSt T ex st) := fun s hs => sm_then (hM s hs) (sm_after hT hS (bs_ne [100, 111] (by simp)))
omit hT in
theorem sm_listOne {st : PS -> St × PS} (hS : SM T st) : SM T (listOne T st) := by
 intro s hs
 unfold listOne
 split
 ·exact ⟨hs, fun _ => rfl⟩
 ·exact hS s hs
theorem sm_listLoop {st : PS -> St × PS} (hS : SM T st) : ∀ (n : Nat) (l : List St) (s : PS), Stk T s -> Stk T (listLoop T st n l s).2 /\ (s.code ≠ 0 -> (listLoop T st n l s).2 = s)
 | 0, l, s, hs => ⟨hs, fun _ => rfl⟩
 | n + 1, l, s, hs => by
  have h1 := sm_listOne hS s hs
  rw [listLoop]
  split
  ·rename_i h
   have hc := code_of_sees hT h1.1 (bs_ne _ (by simp)) h
   have h2 := sm_listLoop hS n (l ++ (listOne T st s).1) (adv (listOne T st s).2) (stk_adv hc)
   refine ⟨h2.1, fun hc0 => ?_⟩
   rw [h1.2 hc0] at hc
   exact absurd hc hc0
  ·exact h1
theorem sm_listOf {st : PS -> St × PS} (hS : SM T st) : SM T (listOf T st) := fun s hs => sm_listLoop hT hS T.length [] s hs
end
end Go.Proofs.YtklobognaldjpaaGreat
