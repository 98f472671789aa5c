/- Plain functions: the reader that looks at names as it goes. Plain functions: what is declared, looked at on the way. Plain: how many names there are; where a declaration leaves one. Plain: how many na -/
import Derived.Test.YtklobognaldjpaaGreatCPure5
namespace Go.Proofs.YtklobognaldjpaaGreat
structure Sy where
 name : ByteArray
 kind : Nat
 args : Nat
 deriving Inhabited
structure Env where
 glob : List Sy
 here : List Sy
 inside : Option Nat
 fresh : Bool
def findBelow (l : List Sy) (n : ByteArray) : Nat -> Option Nat
 | 0 => none
 | i + 1 => if ((l.getD i default).name.toList == n.toList) then some i else findBelow l n i
def findLast (l : List Sy) (n : ByteArray) : Option Nat := findBelow l n l.length
def Env.kindIx (E : Env) (n : ByteArray) : Int × Int :=
 match findLast E.here n with
 | some _ => (0, -1)
 | none =>
  match findLast E.glob n with
  | none => (-1, -1)
  | some k => ((E.glob.getD k default).kind, k)
def Env.args (E : Env) (n : ByteArray) : Nat :=
 match findLast E.glob n with
 | none => 0
 | some k => (E.glob.getD k default).args
def Env.isRes (E : Env) (n : ByteArray) : Bool :=
 match E.inside with
 | none => false
 | some k => decide ((E.glob.getD k default).kind = 3) && ((E.glob.getD k default).name.toList == n.toList) && (findLast E.here n).isNone
def isOpen (t : Tok) : Bool := (t.text.toList == (bs [40]).toList) || (t.text.toList == (bs [91]).toList)
def isClose (t : Tok) : Bool := (t.text.toList == (bs [41]).toList) || (t.text.toList == (bs [93]).toList)
def isComma (t : Tok) : Bool := t.text.toList == (bs [44]).toList
def givenGo : List Tok -> Nat -> Nat -> Nat
 | [], _, n => n
 | t :: r, o, n =>
  if isOpen t then givenGo r (o + 1) n
  else if isClose t then (if o = 0 then n else givenGo r (o - 1) n)
  else if isComma t && decide (o = 0) then givenGo r o (n + 1)
  else givenGo r o n
section
variable (T : List Tok)
def givenT (s : PS) : Nat := if sees T (bs [41]) (adv (adv s)) then 0 else givenGo (T.drop (s.next + 2)) 0 1
def stop (c p : Nat) : PS := ⟨c, p, T.length - 1⟩
def wantsE (m : Option Env) (s0 : PS) (kind : Nat) (s : PS) : PS :=
 match m with
 | none => s
 | some E => if (E.kindIx (cur T s0).text).1 = kind then s else stop T 6 (cur T s0).pos
def callE (m : Option Env) (s0 : PS) (kind : Nat) (s : PS) : PS :=
 match m with
 | none => s
 | some E => if (E.kindIx (cur T s0).text).1 = kind then (if givenT T s0 = E.args (cur T s0).text then s else stop T 7 (cur T s0).pos) else stop T 6 (cur T s0).pos
def assignE (m : Option Env) (s0 s : PS) : PS :=
 match m with
 | none => s
 | some E => if E.isRes (cur T s0).text then s else wantsE T (some E) s0 0 s
def namedFactorN (m : Option Env) (ex : PS -> Ex × PS) (s : PS) : Ex × PS :=
 if sees T (bs [40]) (adv s) then (.call (cur T s).text (cur T s).pos (argsOf T ex (callE T m s 3 (adv (adv s)))).1, (argsOf T ex (callE T m s 3 (adv (adv s)))).2)
 else if sees T (bs [91]) (adv s) then (.elem (cur T s).text (cur T s).pos (indexOf T ex (wantsE T m s 1 (adv (adv s)))).1, (indexOf T ex (wantsE T m s 1 (adv (adv s)))).2)
 else (.var (cur T s).text (cur T s).pos, wantsE T m s 0 (adv s))
def factorN (m : Option Env) : Nat -> PS -> Ex × PS
 | 0, s => (.nil, fails T 5 s)
 | k + 1, s =>
  if kindIs T .number s then (.num (numP T s).1.1, (numP T s).2)
  else if kindIs T .name s then namedFactorN T m (exprOf T (factorN m k)) s
  else if sees T (bs [40]) s then ((exprOf T (factorN m k) (adv s)).1, want T (bs [41]) (exprOf T (factorN m k) (adv s)).2)
  else if sees T (bs [45]) s then (.un (bs [45]) (factorN m k (adv s)).1, (factorN m k (adv s)).2)
  else if sees T (bs [110, 111, 116]) s then (.un (bs [110, 111, 116]) (factorN m k (adv s)).1, (factorN m k (adv s)).2)
  else (.nil, fails T 4 s)
def exprN (m : Option Env) (k : Nat) : PS -> Ex × PS := exprOf T (factorN T m k)
def namedStN (m : Option Env) (ex : PS -> Ex × PS) (s : PS) : St × PS :=
 if sees T (bs [40]) (adv s) then (.proc (cur T s).text (cur T s).pos (argsOf T ex (callE T m s 2 (adv (adv s)))).1, (argsOf T ex (callE T m s 2 (adv (adv s)))).2)
 else if sees T (bs [91]) (adv s) then
  (.put (cur T s).text (cur T s).pos (indexOf T ex (wantsE T m s 1 (adv (adv s)))).1 (ex (want T (bs [58, 61]) (indexOf T ex (wantsE T m s 1 (adv (adv s)))).2)).1, (ex (want T (bs [58, 61]) (indexOf T ex (wantsE T m s 1 (adv (adv s)))).2)).2)
 else if sees T (bs [58, 61]) (adv s) then (.assign (cur T s).text (cur T s).pos (ex (assignE T m s (adv (adv s)))).1, (ex (assignE T m s (adv (adv s)))).2)
 else (.assign (cur T s).text (cur T s).pos (ex (fails T 4 (adv s))).1, (ex (fails T 4 (adv s))).2)
def readN (m : Option Env) (s : PS) : PS := if kindIs T .name s then wantsE T m s 0 (adv s) else fails T 4 s
def stmtN (m : Option Env) : Nat -> PS -> St × PS
 | 0, s => (.nil, fails T 5 s)
 | k + 1, s =>
  if kindIs T .name s then namedStN T m (exprN T m k) s
  else if sees T (bs [105, 102]) s then choiceSt T (exprN T m k) (stmtN m k) (adv s)
  else if sees T (bs [119, 104, 105, 108, 101]) s then whileSt T (exprN T m k) (stmtN m k) (adv s)
  else if sees T (bs [98, 101, 103, 105, 110]) s then (.block (listOf T (stmtN m k) (adv s)).1, want T (bs [101, 110, 100]) (listOf T (stmtN m k) (adv s)).2)
  else if sees T (bs [119, 114, 105, 116, 101]) s then (.write (exprN T m k (adv s)).1, (exprN T m k (adv s)).2)
  else if sees T (bs [114, 101, 97, 100]) s then (.read (nameP T (adv s)).1.1 (nameP T (adv s)).1.2, readN T m (adv s))
  else (.nil, fails T 4 s)
end
section
variable {T : List Tok}
theorem nameP_kind {s : PS} (hk : kindIs T .name s = true) : nameP T s = (((cur T s).text, (cur T s).pos), adv s) := by simp [nameP, hk]
theorem namedFactorN_none {ex : PS -> Ex × PS} {s : PS} (hk : kindIs T .name s = true) : namedFactorN T none ex s = namedFactor T ex s := by
 unfold namedFactorN namedFactor
 rw [nameP_kind hk]
 rfl
theorem factorN_none : ∀ k, factorN T none k = factorD T k
 | 0 => rfl
 | k + 1 => by
  funext s
  rw [factorN, factorD, factorN_none k]
  split
  ·rfl
  ·split
   ·rename_i h; exact namedFactorN_none h
   ·rfl
theorem exprN_none (k : Nat) : exprN T none k = exprD T k := by unfold exprN exprD; rw [factorN_none]
theorem namedStN_none {ex : PS -> Ex × PS} {s : PS} (hk : kindIs T .name s = true) : namedStN T none ex s = namedSt T ex s := by
 unfold namedStN namedSt
 rw [nameP_kind hk]
 split
 ·rfl
 ·split
  ·rfl
  ·rename_i h1 h2
   unfold want
   split
   ·rfl
   ·rfl
theorem stmtN_none : ∀ k, stmtN T none k = stmtD T k
 | 0 => rfl
 | k + 1 => by
  funext s
  rw [stmtN, stmtD, stmtN_none k, exprN_none]
  split
  ·rename_i h; exact namedStN_none h
  ·have e : readN T none (adv s) = (nameP T (adv s)).2 := by unfold readN nameP; split <;> rfl
   rw [e]
variable (hT : Toks T)
include hT
theorem mon_stop (c p : Nat) {s : PS} (hg : Good T s) : Good T (stop T c p) /\ s.next <= (stop T c p).next := ⟨by have := hT.pos; show T.length - 1 < T.length; omega, by have : s.next < T.length := hg; show s.next <= T.length - 1; omega⟩
theorem mon_wantsE (m : Option Env) (s0 : PS) (kind : Nat) {s : PS} (hg : Good T s) : Good T (wantsE T m s0 kind s) /\ s.next <= (wantsE T m s0 kind s).next := by
 unfold wantsE
 split
 ·exact ⟨hg, Nat.le_refl _⟩
 ·split
  ·exact ⟨hg, Nat.le_refl _⟩
  ·exact mon_stop hT _ _ hg
theorem mon_callE (m : Option Env) (s0 : PS) (kind : Nat) {s : PS} (hg : Good T s) : Good T (callE T m s0 kind s) /\ s.next <= (callE T m s0 kind s).next := by
 unfold callE
 split
 ·exact ⟨hg, Nat.le_refl _⟩
 ·split
  ·split
   ·exact ⟨hg, Nat.le_refl _⟩
   ·exact mon_stop hT _ _ hg
  ·exact mon_stop hT _ _ hg
theorem mon_assignE (m : Option Env) (s0 : PS) {s : PS} (hg : Good T s) : Good T (assignE T m s0 s) /\ s.next <= (assignE T m s0 s).next := by
 unfold assignE
 split
 ·exact ⟨hg, Nat.le_refl _⟩
 ·split
  ·exact ⟨hg, Nat.le_refl _⟩
  ·exact mon_wantsE hT _ _ _ hg
omit hT in
theorem stk_wantsE (m : Option Env) (s0 : PS) (kind : Nat) {s : PS} (hs : Stk T s) : Stk T (wantsE T m s0 kind s) := by
 unfold wantsE
 split
 ·exact hs
 ·split
  ·exact hs
  ·exact fun _ => rfl
omit hT in
theorem stk_callE (m : Option Env) (s0 : PS) (kind : Nat) {s : PS} (hs : Stk T s) : Stk T (callE T m s0 kind s) := by
 unfold callE
 split
 ·exact hs
 ·split
  ·split
   ·exact hs
   ·exact fun _ => rfl
  ·exact fun _ => rfl
omit hT in
theorem stk_assignE (m : Option Env) (s0 : PS) {s : PS} (hs : Stk T s) : Stk T (assignE T m s0 s) := by
 unfold assignE
 split
 ·exact hs
 ·split
  ·exact hs
  ·exact stk_wantsE _ _ _ hs
theorem mon_namedFactorN (m : Option Env) {pf : PS -> Ex × PS} (hM : Mon T pf) {s : PS} (hg : Good T s) (hk : kindIs T .name s = true) : Good T (namedFactorN T m pf s).2 /\ s.next <= (namedFactorN T m pf s).2.next := by
 have hga := good_adv_kind hT hg hk (by decide)
 have e1 : (adv s).next = s.next + 1 := rfl
 have e2 : (adv (adv s)).next = s.next + 2 := rfl
 unfold namedFactorN
 split
 ·rename_i h
  have h1 := mon_callE hT m s 3 (good_adv hT hga h (bs_ne _ (by simp)))
  have h2 := mon_argsOf hT hM _ h1.1
  exact ⟨h2.1, by have := h1.2; have := h2.2; simp only; omega⟩
 ·split
  ·rename_i h
   have h1 := mon_wantsE hT m s 1 (good_adv hT hga h (bs_ne _ (by simp)))
   have h2 := mon_indexOf hT hM _ h1.1
   exact ⟨h2.1, by have := h1.2; have := h2.2; simp only; omega⟩
  ·have h1 := mon_wantsE hT m s 0 hga
   exact ⟨h1.1, by have := h1.2; simp only; omega⟩
theorem mon_factorN (m : Option Env) : ∀ k, Mon T (factorN T m k)
 | 0 => fun s hg => ⟨good_fails hT 5 s, le_fails 5 hg⟩
 | k + 1 => fun s hg => by
  have ih := mon_factorN m k
  have hx := mon_exprOf hT ih
  rw [factorN]
  split
  ·exact mon_numP hT s hg
  ·split
   ·rename_i h; exact mon_namedFactorN hT m hx hg h
   ·split
    ·rename_i h
     have h2 := step_adv hT hx (bs_ne _ (by simp)) hg h
     have h3 := mon_want hT (f := bs [41]) (bs_ne _ (by simp)) h2.1
     exact ⟨h3.1, Nat.le_trans h2.2 h3.2⟩
    ·split
     ·rename_i h; exact step_adv hT ih (bs_ne _ (by simp)) hg h
     ·split
      ·rename_i h; exact step_adv hT ih (bs_ne _ (by simp)) hg h
      ·exact ⟨good_fails hT 4 s, le_fails 4 hg⟩
theorem mon_exprN (m : Option Env) (k : Nat) : Mon T (exprN T m k) := mon_exprOf hT (mon_factorN hT m k)
theorem stk_namedFactorN (m : Option Env) {pf : PS -> Ex × PS} (hM : SM T pf) {s : PS} (hc : s.code = 0) : Stk T (namedFactorN T m pf s).2 := by
 have haa : Stk T (adv (adv s)) := fun h => absurd hc h
 unfold namedFactorN
 split
 ·exact (sm_argsOf hT hM _ (stk_callE m s 3 haa)).1
 ·split
  ·exact (sm_indexOf hT hM _ (stk_wantsE m s 1 haa)).1
  ·exact stk_wantsE m s 0 (stk_adv hc)
theorem sm_factorN (m : Option Env) : ∀ k, SM T (factorN T m k)
 | 0 => fun s hs => ⟨stk_fails 5 s, fails_still 5 hs⟩
 | k + 1 => fun s hs => by
  have ih := sm_factorN m k
  have hx := sm_exprOf hT ih
  rw [factorN]
  split
  ·exact sm_numP hT s hs
  ·split
   ·rename_i h
    have hc := code_of_kind hT hs (by decide) h
    exact ⟨stk_namedFactorN hT m hx hc, fun h => absurd hc h⟩
   ·split
    ·rename_i h
     exact sm_then (sm_step hT hx (bs_ne _ (by simp)) hs h) (sm_want hT (bs_ne [41] (by simp)))
    ·split
     ·rename_i h; exact sm_step hT ih (bs_ne _ (by simp)) hs h
     ·split
      ·rename_i h; exact sm_step hT ih (bs_ne _ (by simp)) hs h
      ·exact ⟨stk_fails 4 s, fails_still 4 hs⟩
theorem sm_exprN (m : Option Env) (k : Nat) : SM T (exprN T m k) := sm_exprOf hT (sm_factorN hT m k)
theorem mon_namedStN (m : Option Env) {ex : PS -> Ex × PS} (hM : Mon T ex) {s : PS} (hg : Good T s) (hk : kindIs T .name s = true) : Good T (namedStN T m ex s).2 /\ s.next <= (namedStN T m ex s).2.next := by
 have hga := good_adv_kind hT hg hk (by decide)
 have e1 : (adv s).next = s.next + 1 := rfl
 have e2 : (adv (adv s)).next = s.next + 2 := rfl
 unfold namedStN
 split
 ·rename_i h
  have h1 := mon_callE hT m s 2 (good_adv hT hga h (bs_ne _ (by simp)))
  have h2 := mon_argsOf hT hM _ h1.1
  exact ⟨h2.1, by have := h1.2; have := h2.2; simp only; omega⟩
 ·split
  ·rename_i h
   have h1 := mon_wantsE hT m s 1 (good_adv hT hga h (bs_ne _ (by simp)))
   have h2 := mon_indexOf hT hM _ h1.1
   have h3 := mon_after hT hM (bs_ne [58, 61] (by simp)) h2.1
   exact ⟨h3.1, by have := h1.2; have := h2.2; have := h3.2; simp only; omega⟩
  ·split
   ·rename_i h
    have h1 := mon_assignE hT m s (good_adv hT hga h (bs_ne _ (by simp)))
    have h2 := hM _ h1.1
    exact ⟨h2.1, by have := h1.2; have := h2.2; simp only; omega⟩
   ·have h2 := hM _ (good_fails hT 4 (adv s))
    have h1 := le_fails (T := T) 4 hga
    exact ⟨h2.1, by have := h2.2; simp only; omega⟩
theorem mon_readN (m : Option Env) {s : PS} (hg : Good T s) : Good T (readN T m s) /\ s.next <= (readN T m s).next := by
 unfold readN
 split
 ·rename_i h
  have h1 := mon_wantsE hT m s 0 (good_adv_kind hT hg h (by decide))
  have e1 : (adv s).next = s.next + 1 := rfl
  exact ⟨h1.1, by have := h1.2; omega⟩
 ·exact ⟨good_fails hT 4 s, le_fails 4 hg⟩
theorem sm_readN (m : Option Env) {s : PS} (hs : Stk T s) : Stk T (readN T m s) /\ (s.code ≠ 0 -> readN T m s = s) := by
 unfold readN
 split
 ·rename_i h
  have hc := code_of_kind hT hs (by decide) h
  exact ⟨stk_wantsE m s 0 (stk_adv hc), fun h => absurd hc h⟩
 ·exact ⟨stk_fails 4 s, fails_still 4 hs⟩
theorem mon_stmtN (m : Option Env) : ∀ k, Mon T (stmtN T m k)
 | 0 => fun s hg => ⟨good_fails hT 5 s, le_fails 5 hg⟩
 | k + 1 => fun s hg => by
  have ih := mon_stmtN m k
  have hx := mon_exprN hT m k
  rw [stmtN]
  split
  ·rename_i h; exact mon_namedStN hT m hx hg h
  ·split
   ·rename_i h; exact step_adv hT (mon_choiceSt hT hx ih) (bs_ne _ (by simp)) hg h
   ·split
    ·rename_i h; exact step_adv hT (mon_whileSt hT hx ih) (bs_ne _ (by simp)) hg h
    ·split
     ·rename_i h
      have h2 := step_adv hT (mon_listOf hT ih) (bs_ne _ (by simp)) hg h
      have h3 := mon_want hT (f := bs [101, 110, 100]) (bs_ne _ (by simp)) h2.1
      exact ⟨h3.1, Nat.le_trans h2.2 h3.2⟩
     ·split
      ·rename_i h; exact step_adv hT hx (bs_ne _ (by simp)) hg h
      ·split
       ·rename_i h
        have h2 := mon_readN hT m (good_adv hT hg h (bs_ne _ (by simp)))
        have e1 : (adv s).next = s.next + 1 := rfl
        exact ⟨h2.1, by have := h2.2; simp only; omega⟩
       ·exact ⟨good_fails hT 4 s, le_fails 4 hg⟩
theorem stk_namedStN (m : Option Env) {ex : PS -> Ex × PS} (hM : SM T ex) {s : PS} (hc : s.code = 0) : Stk T (namedStN T m ex s).2 := by
 have haa : Stk T (adv (adv s)) := fun h => absurd hc h
 unfold namedStN
 split
 ·exact (sm_argsOf hT hM _ (stk_callE m s 2 haa)).1
 ·split
  ·exact (sm_after hT hM (bs_ne [58, 61] (by simp)) (sm_indexOf hT hM _ (stk_wantsE m s 1 haa)).1).1
  ·split
   ·exact (hM _ (stk_assignE m s haa)).1
   ·exact (hM _ (stk_fails 4 (adv s))).1
theorem sm_stmtN (m : Option Env) : ∀ k, SM T (stmtN T m k)
 | 0 => fun s hs => ⟨stk_fails 5 s, fails_still 5 hs⟩
 | k + 1 => fun s hs => by
  have ih := sm_stmtN m k
  have hx := sm_exprN hT m k
  rw [stmtN]
  split
  ·rename_i h
   have hc := code_of_kind hT hs (by decide) h
   exact ⟨stk_namedStN hT m hx hc, fun h => absurd hc h⟩
  ·split
   ·rename_i h; exact sm_step hT (sm_choiceSt hT hx ih) (bs_ne _ (by simp)) hs h
   ·split
    ·rename_i h; exact sm_step hT (sm_whileSt hT hx ih) (bs_ne _ (by simp)) hs h
    ·split
     ·rename_i h
      exact sm_then (sm_step hT (sm_listOf hT ih) (bs_ne _ (by simp)) hs h) (sm_want hT (bs_ne [101, 110, 100] (by simp)))
     ·split
      ·rename_i h; exact sm_step hT hx (bs_ne _ (by simp)) hs h
      ·split
       ·rename_i h
        have hc := code_of_sees hT hs (bs_ne _ (by simp)) h
        exact ⟨(sm_readN hT m (stk_adv hc)).1, fun h => absurd hc h⟩
       ·exact ⟨stk_fails 4 s, fails_still 4 hs⟩
end
def Env.row (E : Env) (here : Bool) : List Sy := if here then E.here else E.glob
def Env.add (E : Env) (here : Bool) (y : Sy) : Env := if here then { E with here := E.here ++ [y] } else { E with glob := E.glob ++ [y], fresh := true }
def Env.enter (E : Env) : Env := { E with inside := some (E.glob.length - 1), fresh := false }
def Env.leave (E : Env) : Env := { E with here := [], inside := none, fresh := false }
section
variable (T : List Tok)
def declE (m : Option Env) (here : Bool) (s0 : PS) (kind args : Nat) (s : PS) : Option Env × PS :=
 match m with
 | none => (none, s)
 | some E =>
  if s.code = 0 then
   (if (findLast (E.row here) (cur T s0).text).isSome then (some E, stop T 6 (cur T s0).pos) else (some (E.add here ⟨(cur T s0).text, kind, args⟩), s))
  else (some E, s)
def sizeE (m : Option Env) (s0 s : PS) : PS :=
 match m with
 | none => s
 | some _ => if s.code = 0 /\ ((cur T s0).val < 1 ∨ 20 < (cur T s0).val) then stop T 3 (cur T s0).pos else s
def manyE (m : Option Env) (s0 : PS) (n : Nat) (s : PS) : PS :=
 match m with
 | none => s
 | some _ => if s.code = 0 /\ 4 < n then stop T 7 (cur T s0).pos else s
def itemN (m : Option Env) (s : PS) : Option Env × PS :=
 if sees T (bs [91]) (nameP T s).2 then
  ((declE T m false s 1 0 (numP T (adv (nameP T s).2)).2).1, want T (bs [93]) (sizeE T m (adv (nameP T s).2) (declE T m false s 1 0 (numP T (adv (nameP T s).2)).2).2))
 else declE T m false s 0 0 (nameP T s).2
def itemsLoopN : Nat -> Option Env -> PS -> Option Env × PS
 | 0, m, s => (m, s)
 | n + 1, m, s => if sees T (bs [44]) s then itemsLoopN n (itemN T m (adv s)).1 (itemN T m (adv s)).2 else (m, s)
def itemsN (m : Option Env) (s : PS) : Option Env × PS :=
 ((itemsLoopN T T.length (itemN T m s).1 (itemN T m s).2).1, want T (bs [59]) (itemsLoopN T T.length (itemN T m s).1 (itemN T m s).2).2)
def oneN (m : Option Env) (s : PS) : Option Env × PS := declE T m true s 0 0 (nameP T s).2
def hereLoopN : Nat -> Option Env -> PS -> Option Env × PS
 | 0, m, s => (m, s)
 | n + 1, m, s => if sees T (bs [44]) s then hereLoopN n (oneN T m (adv s)).1 (oneN T m (adv s)).2 else (m, s)
def hereN (m : Option Env) (s : PS) : Option Env × PS := hereLoopN T T.length (oneN T m s).1 (oneN T m s).2
def paramsN (m : Option Env) (s : PS) : Option Env × PS := if sees T (bs [41]) s then (m, s) else hereN T m s
def localsLoopN : Nat -> Option Env -> PS -> Option Env × PS
 | 0, m, s => (m, s)
 | n + 1, m, s => if sees T (bs [118, 97, 114]) s then localsLoopN n (hereN T m (adv s)).1 (want T (bs [59]) (hereN T m (adv s)).2) else (m, s)
def countGo : List Tok -> Nat -> Nat
 | t :: u :: r, n => if t.kind = .name then (if isComma u then countGo r (n + 1) else n + 1) else n
 | _, n => n
def countT (s : PS) : Nat := countGo (T.drop s.next) 0
def openN (s : PS) : PS := want T (bs [40]) (nameP T s).2
def routE (m : Option Env) (kind : Nat) (s : PS) : Option Env × PS :=
 ((declE T m false s kind (countT T (openN T s)) (openN T s)).1, manyE T m s (countT T (openN T s)) (declE T m false s kind (countT T (openN T s)) (openN T s)).2)
def routHead (m : Option Env) (kind : Nat) (s : PS) : Option Env × PS := paramsN T (routE T m kind s).1 (routE T m kind s).2
def routLocals (m : Option Env) (kind : Nat) (s : PS) : Option Env × PS := localsLoopN T T.length (routHead T m kind s).1 (want T (bs [41]) (routHead T m kind s).2)
def routineN (m : Option Env) (kind : Nat) (s : PS) : Option Env × PS :=
 ((routLocals T m kind s).1.map Env.leave, want T (bs [59]) (want T (bs [101, 110, 100]) (listOf T (stmtN T ((routLocals T m kind s).1.map Env.enter) 14) (want T (bs [98, 101, 103, 105, 110]) (routLocals T m kind s).2)).2))
def globalsLoopN : Nat -> Option Env -> PS -> Option Env × PS
 | 0, m, s => (m, s)
 | n + 1, m, s =>
  if sees T (bs [118, 97, 114]) s then globalsLoopN n (itemsN T m (adv s)).1 (itemsN T m (adv s)).2
  else if sees T (bs [112, 114, 111, 99]) s then globalsLoopN n (routineN T m 2 (adv s)).1 (routineN T m 2 (adv s)).2
  else if sees T (bs [102, 117, 110, 99]) s then globalsLoopN n (routineN T m 3 (adv s)).1 (routineN T m 3 (adv s)).2
  else (m, s)
end
section
variable {T : List Tok}
theorem itemN_none (s : PS) : itemN T none s = (none, (itemP T s).2) := by
 unfold itemN itemP; split <;> rfl
theorem itemsLoopN_none : ∀ (n : Nat) (l : List Gl) (s : PS), itemsLoopN T n none s = (none, (itemsLoop T n l s).2)
 | 0, l, s => rfl
 | n + 1, l, s => by
  rw [itemsLoopN, itemsLoop]
  split
  ·rw [itemN_none]; exact itemsLoopN_none n _ _
  ·rfl
theorem itemsN_none (s : PS) : itemsN T none s = (none, (itemsP T s).2) := by
 unfold itemsN itemsP; rw [itemN_none, itemsLoopN_none]
theorem hereLoopN_none : ∀ (n : Nat) (l : List (ByteArray × Nat)) (s : PS), hereLoopN T n none s = (none, (namesLoop T n l s).2)
 | 0, l, s => rfl
 | n + 1, l, s => by
  rw [hereLoopN, namesLoop]
  split
  ·exact hereLoopN_none n _ _
  ·rfl
theorem hereN_none (s : PS) : hereN T none s = (none, (namesP T s).2) := hereLoopN_none _ _ _
theorem paramsN_none (s : PS) : paramsN T none s = (none, (paramsP T s).2) := by
 unfold paramsN paramsP
 split
 ·rfl
 ·exact hereN_none s
theorem localsLoopN_none : ∀ (n : Nat) (l : List (ByteArray × Nat)) (s : PS), localsLoopN T n none s = (none, (localsLoop T n l s).2)
 | 0, l, s => rfl
 | n + 1, l, s => by
  rw [localsLoopN, localsLoop]
  split
  ·rw [hereN_none]; exact localsLoopN_none n _ _
  ·rfl
theorem routHead_none (kind : Nat) (s : PS) : routHead T none kind s = (none, (routineHead T s).2) := paramsN_none _
theorem routLocals_none (kind : Nat) (s : PS) : routLocals T none kind s = (none, (routineLocals T s).2) := by
 unfold routLocals routineLocals; rw [routHead_none]; exact localsLoopN_none _ _ _
theorem routineN_none (kind : Nat) (s : PS) : routineN T none kind s = (none, (routineP T s).2) := by
 unfold routineN routineP bodyP; rw [routLocals_none]
 show (none, want T (bs [59]) (want T (bs [101, 110, 100]) (listOf T (stmtN T none 14) _).2)) = _
 rw [stmtN_none]
theorem globalsLoopN_none : ∀ (n : Nat) (l : List Gl) (s : PS), globalsLoopN T n none s = (none, (globalsLoop T n l s).2)
 | 0, l, s => rfl
 | n + 1, l, s => by
  rw [globalsLoopN, globalsLoop]
  split
  ·rw [itemsN_none]; exact globalsLoopN_none n _ _
  ·split
   ·rw [routineN_none]; exact globalsLoopN_none n _ _
   ·split
    ·rw [routineN_none]; exact globalsLoopN_none n _ _
    ·rfl
structure Go2 (T : List Tok) (s r : PS) : Prop where
 good : Good T r
 le : s.next <= r.next
 stk : Stk T r
 still : s.code ≠ 0 -> r = s
theorem Go2.trans {s r q : PS} (h1 : Go2 T s r) (h2 : Go2 T r q) : Go2 T s q :=
 ⟨h2.good, Nat.le_trans h1.le h2.le, h2.stk, fun h => by rw [h2.still (by rw [h1.still h]; exact h), h1.still h]⟩
theorem Go2.refl {s : PS} (hg : Good T s) (hs : Stk T s) : Go2 T s s := ⟨hg, Nat.le_refl _, hs, fun _ => rfl⟩
theorem Go2.of {α : Type} {f : PS -> α × PS} (hM : Mon T f) (hS : SM T f) {s : PS} (hg : Good T s) (hs : Stk T s) : Go2 T s (f s).2 :=
 ⟨(hM s hg).1, (hM s hg).2, (hS s hs).1, (hS s hs).2⟩
variable (hT : Toks T)
include hT
theorem go2_want {f : ByteArray} (hf : f.toList ≠ []) {s : PS} (hg : Good T s) (hs : Stk T s) : Go2 T s (want T f s) :=
 ⟨(mon_want hT hf hg).1, (mon_want hT hf hg).2, (sm_want hT hf hs).1, (sm_want hT hf hs).2⟩
theorem go2_adv {f : ByteArray} (hf : f.toList ≠ []) {s : PS} (hg : Good T s) (hs : Stk T s) (h : sees T f s = true) : Go2 T s (adv s) :=
 have hc := code_of_sees hT hs hf h
 ⟨good_adv hT hg h hf, Nat.le_succ _, stk_adv hc, fun h => absurd hc h⟩
theorem go2_stop {c p : Nat} {s : PS} (hg : Good T s) (hc : s.code = 0) : Go2 T s (stop T c p) :=
 ⟨(mon_stop hT c p hg).1, (mon_stop hT c p hg).2, fun _ => rfl, fun h => absurd hc h⟩
theorem go2_declE (m : Option Env) (here : Bool) (s0 : PS) (kind args : Nat) {s : PS} (hg : Good T s) (hs : Stk T s) : Go2 T s (declE T m here s0 kind args s).2 := by
 unfold declE
 split
 ·exact .refl hg hs
 ·split
  ·rename_i hc
   split
   ·exact go2_stop hT hg hc
   ·exact .refl hg hs
  ·exact .refl hg hs
theorem go2_sizeE (m : Option Env) (s0 : PS) {s : PS} (hg : Good T s) (hs : Stk T s) : Go2 T s (sizeE T m s0 s) := by
 unfold sizeE
 split
 ·exact .refl hg hs
 ·split
  ·rename_i hc; exact go2_stop hT hg hc.1
  ·exact .refl hg hs
theorem go2_manyE (m : Option Env) (s0 : PS) (n : Nat) {s : PS} (hg : Good T s) (hs : Stk T s) : Go2 T s (manyE T m s0 n s) := by
 unfold manyE
 split
 ·exact .refl hg hs
 ·split
  ·rename_i hc; exact go2_stop hT hg hc.1
  ·exact .refl hg hs
theorem go2_nameP {s : PS} (hg : Good T s) (hs : Stk T s) : Go2 T s (nameP T s).2 := .of (mon_nameP hT) (sm_nameP hT) hg hs
theorem go2_numP {s : PS} (hg : Good T s) (hs : Stk T s) : Go2 T s (numP T s).2 := .of (mon_numP hT) (sm_numP hT) hg hs
theorem go2_itemN (m : Option Env) {s : PS} (hg : Good T s) (hs : Stk T s) : Go2 T s (itemN T m s).2 := by
 have h1 := go2_nameP hT hg hs
 unfold itemN
 split
 ·rename_i h
  have h2 := go2_adv hT (bs_ne _ (by simp)) h1.good h1.stk h
  have h3 := go2_numP hT h2.good h2.stk
  have h4 := go2_declE hT m false s 1 0 h3.good h3.stk
  have h5 := go2_sizeE hT m (adv (nameP T s).2) h4.good h4.stk
  exact ((((h1.trans h2).trans h3).trans h4).trans h5).trans (go2_want hT (bs_ne _ (by simp)) h5.good h5.stk)
 ·exact h1.trans (go2_declE hT m false s 0 0 h1.good h1.stk)
theorem go2_itemsLoopN : ∀ (n : Nat) (m : Option Env) (s : PS), Good T s -> Stk T s -> Go2 T s (itemsLoopN T n m s).2
 | 0, m, s, hg, hs => .refl hg hs
 | n + 1, m, s, hg, hs => by
  rw [itemsLoopN]
  split
  ·rename_i h
   have h1 := go2_adv hT (bs_ne _ (by simp)) hg hs h
   have h2 := go2_itemN hT m h1.good h1.stk
   exact (h1.trans h2).trans (go2_itemsLoopN n _ _ h2.good h2.stk)
  ·exact .refl hg hs
theorem go2_itemsN (m : Option Env) {s : PS} (hg : Good T s) (hs : Stk T s) : Go2 T s (itemsN T m s).2 := by
 have h1 := go2_itemN hT m hg hs
 have h2 := go2_itemsLoopN hT T.length (itemN T m s).1 _ h1.good h1.stk
 exact (h1.trans h2).trans (go2_want hT (bs_ne _ (by simp)) h2.good h2.stk)
theorem go2_oneN (m : Option Env) {s : PS} (hg : Good T s) (hs : Stk T s) : Go2 T s (oneN T m s).2 :=
 have h1 := go2_nameP hT hg hs
 h1.trans (go2_declE hT m true s 0 0 h1.good h1.stk)
theorem go2_hereLoopN : ∀ (n : Nat) (m : Option Env) (s : PS), Good T s -> Stk T s -> Go2 T s (hereLoopN T n m s).2
 | 0, m, s, hg, hs => .refl hg hs
 | n + 1, m, s, hg, hs => by
  rw [hereLoopN]
  split
  ·rename_i h
   have h1 := go2_adv hT (bs_ne _ (by simp)) hg hs h
   have h2 := go2_oneN hT m h1.good h1.stk
   exact (h1.trans h2).trans (go2_hereLoopN n _ _ h2.good h2.stk)
  ·exact .refl hg hs
theorem go2_hereN (m : Option Env) {s : PS} (hg : Good T s) (hs : Stk T s) : Go2 T s (hereN T m s).2 := by
 have h1 := go2_oneN hT m hg hs
 exact h1.trans (go2_hereLoopN hT T.length (oneN T m s).1 _ h1.good h1.stk)
theorem go2_paramsN (m : Option Env) {s : PS} (hg : Good T s) (hs : Stk T s) : Go2 T s (paramsN T m s).2 := by
 unfold paramsN
 split
 ·exact .refl hg hs
 ·exact go2_hereN hT m hg hs
theorem go2_localsLoopN : ∀ (n : Nat) (m : Option Env) (s : PS), Good T s -> Stk T s -> Go2 T s (localsLoopN T n m s).2
 | 0, m, s, hg, hs => .refl hg hs
 | n + 1, m, s, hg, hs => by
  rw [localsLoopN]
  split
  ·rename_i h
   have h1 := go2_adv hT (bs_ne _ (by simp)) hg hs h
   have h2 := go2_hereN hT m h1.good h1.stk
   have h3 := go2_want hT (f := bs [59]) (bs_ne _ (by simp)) h2.good h2.stk
   exact ((h1.trans h2).trans h3).trans (go2_localsLoopN n _ _ h3.good h3.stk)
  ·exact .refl hg hs
theorem go2_openN {s : PS} (hg : Good T s) (hs : Stk T s) : Go2 T s (openN T s) :=
 have h1 := go2_nameP hT hg hs
 h1.trans (go2_want hT (bs_ne _ (by simp)) h1.good h1.stk)
theorem go2_routE (m : Option Env) (kind : Nat) {s : PS} (hg : Good T s) (hs : Stk T s) : Go2 T s (routE T m kind s).2 := by
 have h1 := go2_openN hT hg hs
 have h2 := go2_declE hT m false s kind (countT T (openN T s)) h1.good h1.stk
 exact (h1.trans h2).trans (go2_manyE hT m s _ h2.good h2.stk)
theorem go2_routHead (m : Option Env) (kind : Nat) {s : PS} (hg : Good T s) (hs : Stk T s) : Go2 T s (routHead T m kind s).2 :=
 have h1 := go2_routE hT m kind hg hs
 h1.trans (go2_paramsN hT _ h1.good h1.stk)
theorem go2_routLocals (m : Option Env) (kind : Nat) {s : PS} (hg : Good T s) (hs : Stk T s) : Go2 T s (routLocals T m kind s).2 := by
 have h1 := go2_routHead hT m kind hg hs
 have h2 := go2_want hT (f := bs [41]) (bs_ne _ (by simp)) h1.good h1.stk
 exact (h1.trans h2).trans (go2_localsLoopN hT _ _ _ h2.good h2.stk)
theorem go2_list (m : Option Env) (k : Nat) {s : PS} (hg : Good T s) (hs : Stk T s) : Go2 T s (listOf T (stmtN T m k) s).2 := .of (mon_listOf hT (mon_stmtN hT m k)) (sm_listOf hT (sm_stmtN hT m k)) hg hs
theorem go2_routineN (m : Option Env) (kind : Nat) {s : PS} (hg : Good T s) (hs : Stk T s) : Go2 T s (routineN T m kind s).2 := by
 have h1 := go2_routLocals hT m kind hg hs
 have h2 := go2_want hT (f := bs [98, 101, 103, 105, 110]) (bs_ne _ (by simp)) h1.good h1.stk
 have h3 := go2_list hT ((routLocals T m kind s).1.map Env.enter) 14 h2.good h2.stk
 have h4 := go2_want hT (f := bs [101, 110, 100]) (bs_ne _ (by simp)) h3.good h3.stk
 exact (((h1.trans h2).trans h3).trans h4).trans (go2_want hT (bs_ne _ (by simp)) h4.good h4.stk)
end
section
variable {T : List Tok}
end
section
variable {T : List Tok}
theorem Go2.code {s r : PS} (h : Go2 T s r) (hr : r.code = 0) : s.code = 0 := by
 by_cases hc : s.code = 0
 ·exact hc
 ·rw [h.still hc] at hr; exact hr
variable (hT : Toks T)
include hT
theorem name_next {s : PS} (hc : (nameP T s).2.code = 0) (hs : Stk T s) : (nameP T s).2.next = s.next + 1 := by
 unfold nameP at *
 split
 ·rfl
 ·rename_i h
  rw [if_neg h] at hc
  have h0 := (sm_nameP hT s hs).2
  unfold nameP at h0
  rw [if_neg h] at h0
  by_cases hz : s.code = 0
  ·simp [fails, hz] at hc
  ·simp [fails, hz] at hc
end
end Go.Proofs.YtklobognaldjpaaGreat
