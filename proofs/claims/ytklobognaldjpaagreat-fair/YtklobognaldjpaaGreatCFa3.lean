/- The law Fair: same in general; the rows of whole; the room round by round. The law Fair: the room round by round, in memory. The law Alone: its contract. The law Fair: how it begins; a job that is loo -/
import Derived.Test.YtklobognaldjpaaGreatCSp1
import Derived.Test.YtklobognaldjpaaGreatCRp5
set_option maxRecDepth 1000000
set_option maxHeartbeats 2000000
namespace Go.Proofs.YtklobognaldjpaaGreat
open Go.RowKit
theorem same_any {vo vp : Value} {o p : Nat × List Int × Nat} {w : World} (ho : OutAt w vo o) (hp : OutAt w vp p) :
  Calls Tryz.prog 26 #[vo, vp] w fun e w' => ∃ r : Bool, e = .returned (.bool r) /\ (o = p -> r = true) /\ Below w.heap.size w w' := by
 by_cases hop : o = p
 ·subst hop
  exact (same_eq ho hp).mono fun e w' ⟨h1, h2⟩ => ⟨true, h1, fun _ => rfl, h2⟩
 have HNE : Hid (o ≠ p) := hop
 clear hop
 obtain ⟨u, rfl, hu⟩ := ho
 obtain ⟨v, rfl, hv⟩ := hp
 obtain ⟨oc, out, ou⟩ := o
 obtain ⟨pc, pout, pu⟩ := p
 dsimp only at hu hv ⊢
 have H1 : Hid (∀ A B, Calls Tryz.prog 36 #[u, v] ((w.alloc A).alloc B) fun e w' => e = .returned (.bool (decide (out = pout))) /\ Below ((w.alloc A).alloc B).heap.size ((w.alloc A).alloc B) w') := fun A B =>
  sameInts_any u v out pout ((w.alloc A).alloc B) (hu.below (up_two _ _ _)) (hv.below (up_two _ _ _))
 obtain ⟨a, ca, rfl, _⟩ := hu
 obtain ⟨b, cb, rfl, _⟩ := hv
 generalize decide (out = pout) = d at *
 cases d
 ·go_enter Tryz.func26, Tryz.ntmps26
  go_wp2_with (go_at_call 36; refine Calls.mono (H1.out _ _) ?_; rintro e w2 ⟨rfl, hb2⟩)
  go_ret
  exact ⟨false, rfl, fun e => absurd e HNE.out, below_two hb2⟩
 ·by_cases h1 : oc = pc
  ·subst h1
   by_cases h2 : ou = pu
   ·subst h2
    go_enter Tryz.func26, Tryz.ntmps26
    go_wp2_with (go_at_call 36; refine Calls.mono (H1.out _ _) ?_; rintro e w2 ⟨rfl, hb2⟩; have c0 : w2.cell? ⟨w.heap.size, 0, none⟩ = some (.int .i64 (oc : Nat)) := kept_two hb2 0; have c2 : w2.cell? ⟨w.heap.size, 2, none⟩ = some (.int .i64 (ou : Nat)) := kept_two hb2 2; have d0 : w2.cell? ⟨w.heap.size + 1, 0, none⟩ = some (.int .i64 (oc : Nat)) := (by have := kept_one hb2 0; simpa using this); have d2 : w2.cell? ⟨w.heap.size + 1, 2, none⟩ = some (.int .i64 (ou : Nat)) := (by have := kept_one hb2 2; simpa using this))
    go_ret
    exact ⟨true, rfl, fun _ => rfl, below_two hb2⟩
   ·have h3 : ¬ (ou : Int) = (pu : Int) := by omega
    go_enter Tryz.func26, Tryz.ntmps26
    go_wp2_with (go_at_call 36; refine Calls.mono (H1.out _ _) ?_; rintro e w2 ⟨rfl, hb2⟩; have c0 : w2.cell? ⟨w.heap.size, 0, none⟩ = some (.int .i64 (oc : Nat)) := kept_two hb2 0; have c2 : w2.cell? ⟨w.heap.size, 2, none⟩ = some (.int .i64 (ou : Nat)) := kept_two hb2 2; have d0 : w2.cell? ⟨w.heap.size + 1, 0, none⟩ = some (.int .i64 (oc : Nat)) := (by have := kept_one hb2 0; simpa using this); have d2 : w2.cell? ⟨w.heap.size + 1, 2, none⟩ = some (.int .i64 (pu : Nat)) := (by have := kept_one hb2 2; simpa using this))
    go_ret
    exact ⟨_, rfl, fun e => absurd e HNE.out, below_two hb2⟩
  ·have h3 : ¬ (oc : Int) = (pc : Int) := by omega
   go_enter Tryz.func26, Tryz.ntmps26
   go_wp2_with (go_at_call 36; refine Calls.mono (H1.out _ _) ?_; rintro e w2 ⟨rfl, hb2⟩; have c0 : w2.cell? ⟨w.heap.size, 0, none⟩ = some (.int .i64 (oc : Nat)) := kept_two hb2 0; have c2 : w2.cell? ⟨w.heap.size, 2, none⟩ = some (.int .i64 (ou : Nat)) := kept_two hb2 2; have d0 : w2.cell? ⟨w.heap.size + 1, 0, none⟩ = some (.int .i64 (pc : Nat)) := (by have := kept_one hb2 0; simpa using this); have d2 : w2.cell? ⟨w.heap.size + 1, 2, none⟩ = some (.int .i64 (pu : Nat)) := (by have := kept_one hb2 2; simpa using this))
   go_ret
   exact ⟨_, rfl, fun e => absurd e HNE.out, below_two hb2⟩
theorem pup_runs (p : Pup) {W : World} {base : Nat} {oa : Option Addr} {oc : Nat} (ho : W.ownsRow base 3 1 (.slice oa p.inp.length oc) p.inp.length ((p.inp.map wrapV).map (.int .i64))) (hl : p.inp.length <= 17592186044416) :
  Calls Tryz.prog 19 #[.string ⟨(txtOf p.raw).toArray⟩, .slice oa p.inp.length oc, .int .i64 (p.f : Nat)] W fun e w' => Below W.heap.size W w' /\ ∃ ra rc, e = .returned (.tuple #[.agg #[.int .i64 (p.out.1 : Nat), .slice ra p.out.2.1.length rc, .int .i64 (p.out.2.2 : Nat)], .int .i64 0, .int .i64 0]) /\
   Hid (w'.ownsRow W.heap.size 3 1 (.slice ra p.out.2.1.length rc) p.out.2.1.length (p.out.2.1.map (.int .i64)) /\ p.out.2.1.length <= 60) := by
 have hf := pup_f p
 have hok := ok_wrap p.inp
 refine (run_any ⟨(txtOf p.raw).toArray⟩ (.slice oa p.inp.length oc) (p.inp.map wrapV) ((p.f : Nat) : Int) W (row_ints ho (by simp) (by unfold maxLen; omega) hok) (by simp; omega)).mono ?_
 rintro e w' ⟨hb, h⟩
 have el : (⟨(txtOf p.raw).toArray⟩ : ByteArray).data.toList = txtOf p.raw := rfl
 rw [el] at h
 rcases h with h | h | h | h
 ·exact absurd (by rw [pup_check]) h.1
 ·exact absurd ⟨by omega, by omega⟩ h.2.1
 ·rw [hok] at h; cases h.2.2.1
 ·obtain ⟨_, _, _, ra, rc, he, how, h60⟩ := h
  rw [Int.toNat_natCast] at he how h60
  exact ⟨hb, ra, rc, he, how, h60⟩
theorem cap_of {w : World} {base : Nat} {e : TypeId} {a : Option Addr} {n cap : Nat} {xs : List Value} (h : w.ownsRow base e 1 (.slice a n cap) n xs) : n <= cap := by
 rcases h.2 with ⟨h3, _⟩ | ⟨g, c, cur, h3, _, _, h4, _⟩
 ·injection h3 with _ h5 h6; omega
 ·injection h3 with _ h5 h6; omega
theorem owned_any {w : World} {base : Nat} {e : TypeId} {size : Nat} {v : Value} {n : Nat} {xs : List Value} (h : w.ownsRow base e size v n xs) : ∃ a c, v = .slice a n c := by
 rcases h.2 with ⟨h3, h4⟩ | ⟨g, c, cur, h3, _⟩
 ·exact ⟨none, 0, by rw [h3, h4]⟩
 ·exact ⟨_, _, h3⟩
theorem IntsC.first {w : World} {a : Option Addr} {n cap : Nat} {zs : List Int} (h : IntsC w (.slice a n cap) zs) (m : Nat) (hm : m <= n) : IntsC w (.slice a m cap) (zs.take m) := by
 obtain ⟨a2, cap2, e, hl, h3⟩ := h
 cases e
 have hlen : (zs.take m).length = m := by rw [List.length_take]; omega
 refine ⟨a, cap, by rw [hlen], by omega, ?_⟩
 rcases h3 with rfl | ⟨b, off, rfl, hb, hc⟩
 ·exact .inl (by simp)
 ·refine .inr ⟨b, off, rfl, hb, fun i hi => ?_⟩
  rw [hlen] at hi
  rw [hc i (by omega)]
  simp [List.getD, hi]
theorem three_new (w : World) (a b c : Value) (t : TypeId) : ∀ j u, [a, b, c][j]? = some u -> (w.alloc (.cells #[a, b, c] t)).cell? ((⟨w.heap.size, 0, none⟩ : Addr).add j) = some u := by
 intro j u hj
 match j, hj with
 | 0, hj => simp at hj; subst hj; simp [Addr.add]
 | 1, hj => simp at hj; subst hj; simp [Addr.add]
 | 2, hj => simp at hj; subst hj; simp [Addr.add]
 | j + 3, hj => simp at hj
theorem below_grow {b : Nat} {a w w' : World} {row : Option Nat} (h : Below b a w) (hg : w.grownBy w' row) (hb : b <= w.heap.size) (hr : ∀ k, row = some k -> b <= k) : Below b a w' :=
 h.trans ⟨hg.os, hg.tape, hg.output, hg.size, fun k hk => hg.block k (by omega) (fun e => by have := hr k e.symm; omega)⟩
abbrev Q3 := Pup × Option Addr × Nat
def itO (x : Q3) : List Value := [.int .i64 (x.1.out.1 : Nat), .slice x.2.1 x.1.out.2.1.length x.2.2, .int .i64 (x.1.out.2.2 : Nat)]
def flatO (l : List Q3) : List Value := l.flatMap itO
theorem flatO_len : ∀ l, (flatO l).length = l.length * 3
 | [] => rfl
 | a :: l => by
  have e : flatO (a :: l) = itO a ++ flatO l := rfl
  have e2 : (itO a).length = 3 := rfl
  rw [e, List.length_append, flatO_len l, e2, List.length_cons]; omega
theorem flatO_append (a b : List Q3) : flatO (a ++ b) = flatO a ++ flatO b := by simp [flatO]
theorem flatO_get {l : List Q3} {i : Nat} {x : Q3} (h : l[i]? = some x) (j : Nat) (hj : j < 3) : (flatO l)[i * 3 + j]? = (itO x)[j]? := by
 have hi := (List.getElem?_eq_some_iff.1 h).1
 have e : l = l.take i ++ x :: l.drop (i + 1) := by
  have : l[i] = x := (List.getElem?_eq_some_iff.1 h).2
  rw [<- this, List.getElem_cons_drop, List.take_append_drop]
 have hl : (l.take i).length = i := by rw [List.length_take]; omega
 have e1 : flatO (x :: l.drop (i + 1)) = itO x ++ flatO (l.drop (i + 1)) := rfl
 have e2 : (itO x).length = 3 := rfl
 rw [e, flatO_append, e1, List.getElem?_append_right (by rw [flatO_len, hl]; omega), flatO_len, hl, Nat.add_sub_cancel_left, List.getElem?_append_left (by omega)]
structure WhAt (lo : Nat) (w : World) (s : Value) (qs : List Q3) : Prop where
 own : w.ownsRow lo 39 3 s qs.length (flatO qs)
 out : ∀ x ∈ qs, w.ownsRow lo 3 1 (.slice x.2.1 x.1.out.2.1.length x.2.2) x.1.out.2.1.length (x.1.out.2.1.map (.int .i64))
 apt : ∀ x ∈ qs, ∀ k, s.ownBlock = some k -> (Value.slice x.2.1 x.1.out.2.1.length x.2.2).ownBlock ≠ some k
 cap : ∀ x ∈ qs, x.1.out.2.1.length <= 60
section
variable {lo : Nat} {w w' : World} {s : Value} {qs : List Q3}
theorem WhAt.kept (h : WhAt lo w s qs) (hb : ∀ k, lo <= k -> k < w.heap.size -> w'.heap[k]? = w.heap[k]?) : WhAt lo w' s qs :=
 ⟨row_kept h.own fun k e => hb k (h.own.lt k e).1 (h.own.lt k e).2, fun x hx => row_kept (h.out x hx) fun k e => hb k ((h.out x hx).lt k e).1 ((h.out x hx).lt k e).2, h.apt, h.cap⟩
theorem WhAt.below (h : WhAt lo w s qs) (hb : Below w.heap.size w w') : WhAt lo w' s qs := h.kept fun k _ hk => hb.block k hk
theorem WhAt.grow (h : WhAt lo w s qs) {s' : Value} {x : Q3} {lx : Nat} (hx : w.ownsRow lx 3 1 (.slice x.2.1 x.1.out.2.1.length x.2.2) x.1.out.2.1.length (x.1.out.2.1.map (.int .i64))) (hlx : lo <= lx) (hs : ∀ k, s.ownBlock = some k -> k < lx) (hc : x.1.out.2.1.length <= 60)
  (ho : w'.ownsRow lo 39 3 s' (qs.length + 1) (flatO qs ++ itO x)) (hg : w.grownBy w' s.ownBlock) (hn : s'.ownBlock = s.ownBlock ∨ ∀ k, s'.ownBlock = some k -> w.heap.size <= k) : WhAt lo w' s' (qs ++ [x]) := by
 have hbl : ∀ k, k < w.heap.size -> s.ownBlock ≠ some k -> w'.heap[k]? = w.heap[k]? := fun k hk hne => hg.block k hk (fun e => hne e.symm)
 have hmem : ∀ y ∈ qs ++ [x], y ∈ qs ∨ y = x := fun y hy => by
  rcases List.mem_append.1 hy with hy | hy
  ·exact .inl hy
  ·exact .inr (List.mem_singleton.1 hy)
 have hall : ∀ y ∈ qs ++ [x], w.ownsRow lo 3 1 (.slice y.2.1 y.1.out.2.1.length y.2.2) y.1.out.2.1.length (y.1.out.2.1.map (.int .i64)) /\ ∀ k, s.ownBlock = some k -> (Value.slice y.2.1 y.1.out.2.1.length y.2.2).ownBlock ≠ some k := fun y hy => by
  rcases hmem y hy with hy | rfl
  ·exact ⟨h.out y hy, h.apt y hy⟩
  ·refine ⟨row_base hx hlx, fun k hk e => ?_⟩
   have h1 := (hx.lt k e).1
   have h2 := hs k hk
   omega
 refine ⟨?_, fun y hy => ?_, fun y hy k hk => ?_, fun y hy => ?_⟩
 ·have e : flatO [x] = itO x := by simp [flatO]
  rw [flatO_append, e, List.length_append]; exact ho
 ·exact row_kept (hall y hy).1 fun k e => hbl k ((hall y hy).1.lt k e).2 fun e2 => (hall y hy).2 k e2 e
 ·rcases hn with e | e
  ·exact (hall y hy).2 k (e ▸ hk)
  ·intro e2
   have h1 := e k hk
   have h2 := ((hall y hy).1.lt k e2).2
   omega
 ·rcases hmem y hy with hy | rfl
  ·exact h.cap y hy
  ·exact hc
end
def usOf (b : PRm) (i : Nat) : Nat := match b.js[i]? with
 | some P => P.m.used
 | none => 0
def dnOf (b : PRm) (i : Nat) : Nat := match b.js[i]? with
 | some P => if P.done then 1 else 0
 | none => 0
structure ArrAt (w : World) (ub : Nat) (f : Nat -> Nat) : Prop where
 c : ∀ i, i < 5 -> w.cell? ⟨ub, i, none⟩ = some (.int .i64 ((f i : Nat) : Int))
 fz : ∀ i, w.frozen? ⟨ub, i, none⟩ = false
theorem ArrAt.same {w w' : World} {ub : Nat} {f : Nat -> Nat} (h : ArrAt w ub f) (hb : w'.heap[ub]? = w.heap[ub]?) : ArrAt w' ub f :=
 ⟨fun j hj => by rw [World.cell?_of_block (w := w) hb]; exact h.c j hj, fun j => by rw [World.frozen?_of_block (w := w) hb]; exact h.fz j⟩
theorem ArrAt.set {w : World} {ub : Nat} {f : Nat -> Nat} (h : ArrAt w ub f) {j : Nat} (hj : j < 5) (x : Nat) : ArrAt (w.setCell ⟨ub, j, none⟩ (.int .i64 (x : Nat))) ub (fun i => if i = j then x else f i) := by
 refine ⟨fun i hi => ?_, fun i => by rw [World.frozen?_setCell]; exact h.fz i⟩
 show _ = some (Value.int .i64 (((if i = j then x else f i) : Nat) : Int))
 by_cases e : i = j
 ·subst e
  rw [World.cell?_setCell_same _ _ _ (h.c i hi), if_pos rfl]
 ·rw [World.cell?_setCell_other _ _ _ _ (by intro e2; cases e2; exact e rfl), h.c i hi, if_neg e]
theorem ArrAt.congr {w : World} {ub : Nat} {f g : Nat -> Nat} (h : ArrAt w ub f) (e : ∀ i, i < 5 -> f i = g i) : ArrAt w ub g := ⟨fun i hi => by rw [<- e i hi]; exact h.c i hi, h.fz⟩
structure FrAt (w w4 wr : World) (rb sl lo ub ob N : Nat) (vj : Value) (ps : List Pup) (b : PRm) (Js : List JM) (v : Value) : Prop where
 good : PG (endsOf ps) b
 num : ∃ l, PN N b l
 pf : PF sl b
 rep : RRep wr rb sl vj v Js b
 foot : ∀ x, RFoot rb vj v Js x -> w.heap.size <= x /\ (x < lo ∨ w4.heap.size <= x)
 kept : ∀ k, lo <= k -> k < w4.heap.size -> k ≠ ub -> k ≠ ob -> wr.heap[k]? = w4.heap[k]?
 siz : w4.heap.size <= wr.heap.size
 low : w.heap.size <= lo
 ulo : lo <= ub /\ lo <= ob /\ ub < w4.heap.size /\ ob < w4.heap.size
 bel : Below w.heap.size w wr
section
variable {w w4 wr w' : World} {rb sl lo ub ob N : Nat} {vj : Value} {ps : List Pup} {b : PRm} {Js : List JM} {v : Value}
theorem FrAt.below (h : FrAt w w4 wr rb sl lo ub ob N vj ps b Js v) (hb : Below wr.heap.size wr w') : FrAt w w4 w' rb sl lo ub ob N vj ps b Js v :=
 ⟨h.good, h.num, h.pf, h.rep.below hb, h.foot, fun k h1 h2 h3 h4 => (hb.block k (Nat.lt_of_lt_of_le h2 h.siz)).trans (h.kept k h1 h2 h3 h4), Nat.le_trans h.siz hb.size, h.low, h.ulo, h.bel.trans (hb.mono h.bel.size)⟩
theorem FrAt.set (h : FrAt w w4 wr rb sl lo ub ob N vj ps b Js v) {x : Nat} (hx : x = ub ∨ x = ob) (j : Nat) (u : Value) : FrAt w w4 (wr.setCell ⟨x, j, none⟩ u) rb sl lo ub ob N vj ps b Js v := by
 have hl := h.low
 have hu := h.ulo
 have hne : ∀ k, k ≠ x -> (wr.setCell ⟨x, j, none⟩ u).heap[k]? = wr.heap[k]? := fun k hk => Below.heap_setCell _ _ _ _ hk
 refine ⟨h.good, h.num, h.pf, ⟨h.rep.room.same (by simp [World.setCell]) fun k hk => hne k ?_, h.rep.same⟩, h.foot, fun k h1 h2 h3 h4 => (hne k ?_).trans (h.kept k h1 h2 h3 h4), by simpa [World.setCell] using h.siz, h.low, h.ulo, h.bel.setCell (show w.heap.size <= x by omega) _⟩
 ·have := h.foot k hk
  intro e
  omega
 ·intro e
  rcases hx with e2 | e2
  ·exact h3 (e.trans e2)
  ·exact h4 (e.trans e2)
theorem FrAt.whole {s : Value} {qs : List Q3} (h : FrAt w w4 wr rb sl lo ub ob N vj ps b Js v) (hw : WhAt lo w4 s qs) (h1 : ∀ x ∈ qs, ∀ k, (Value.slice x.2.1 x.1.out.2.1.length x.2.2).ownBlock = some k -> k ≠ ub /\ k ≠ ob) (h2 : ∀ k, s.ownBlock = some k -> k ≠ ub /\ k ≠ ob) : WhAt lo wr s qs :=
 ⟨row_kept hw.own fun k e => h.kept k (hw.own.lt k e).1 (hw.own.lt k e).2 (h2 k e).1 (h2 k e).2, fun x hx => row_kept (hw.out x hx) fun k e => h.kept k ((hw.out x hx).lt k e).1 ((hw.out x hx).lt k e).2 (h1 x hx k e).1 (h1 x hx k e).2, hw.apt, hw.cap⟩
def RelB (b c : PRm) : Prop := ∀ (i : Nat) (P : PJ), b.js[i]? = some P -> ∃ Q : PJ, c.js[i]? = some Q /\ P.m.used <= Q.m.used /\ (P.done = true -> Q = P)
theorem FrAt.tick (h : FrAt w w4 wr rb sl lo ub ob N vj ps b Js v) (hsl : sl <= 1000) : Calls Tryz.prog 33 #[.pointer (some ⟨rb, 0, none⟩), .int .i64 1] wr fun e w' => ∃ (n : Nat) (la : Option Addr) (lc : Nat), e = .returned (.tuple #[.slice la n lc, .int .i64 0]) /\ n <= 1 /\ Hid (∃ c Js' v', FrAt w w4 w' rb sl lo ub ob N vj ps c Js' v' /\ RelB b c /\ w'.heap[ub]? = wr.heap[ub]? /\ w'.heap[ob]? = wr.heap[ob]?) := by
 refine (tick_any h.rep h.good hsl (k := 1) (by omega)).mono ?_
 rintro e w' ⟨c, m, Js', v', la, lc, h1, h2, rfl, h3, h4, h5, h6⟩
 have hl := h.low
 have hu := h.ulo
 have hs := h.siz
 have hblk : ∀ k, lo <= k -> k < w4.heap.size -> w'.heap[k]? = wr.heap[k]? := fun k k1 k2 => h6.fr.block k (by omega) fun e => by
  have := h.foot k e
  omega
 obtain ⟨o, l0, hl0, hRd⟩ : ∃ o l0, m = l0 ++ o.toList /\ Rd sl b c o := by
  cases h1 with
  | succ h7 h8 =>
   cases h7
   exact ⟨_, _, rfl, h8⟩
 obtain ⟨p1, _, p3⟩ := rd_pg h.good hRd
 refine ⟨m.length, la, lc, rfl, rds_len h1, c, Js', v', ⟨h2, ?_, rd_pf h.good h.pf hRd, h5, fun x hx => ?_, fun k k1 k2 k3 k4 => (hblk k k1 k2).trans (h.kept k k1 k2 k3 k4), Nat.le_trans h.siz h6.fr.size, h.low, h.ulo, h.bel.trans (below_of_rm h6 (fun b hb => (h.foot b hb).1) h.bel.size)⟩, p3, hblk ub hu.1 hu.2.2.1, hblk ob hu.2.1 hu.2.2.2⟩
 ·obtain ⟨l, hn⟩ := h.num
  exact ⟨_, rd_pn hn hRd⟩
 ·rcases h6.nw x hx with e | e
  ·exact h.foot x e
  ·omega
theorem FrAt.job (h : FrAt w w4 wr rb sl lo ub ob N vj ps b Js v) (hN : N <= 5) {i : Nat} {P : PJ} (hi : b.js[i]? = some P) : Calls Tryz.prog 35 #[.pointer (some ⟨rb, 0, none⟩), .int .i64 ((i : Int) + 1)] wr fun e w' => ∃ oa oc, e = .returned (.tuple #[.agg #[.int .i64 ((P.m.over.getD 0 : Nat) : Int), .slice oa P.m.out.length oc, .int .i64 (P.m.used : Nat)], .int .i64 (if P.done then 1 else 0), .int .i64 0]) /\ P.m.out.length <= oc /\ Hid (OutAt w' (.agg #[.int .i64 ((P.m.over.getD 0 : Nat) : Int), .slice oa P.m.out.length oc, .int .i64 (P.m.used : Nat)]) (P.m.over.getD 0, P.m.out, P.m.used)) /\ Below wr.heap.size wr w' := by
 obtain ⟨J, hJ, hJP⟩ := h.rep.at hi
 subst hJP
 have hJl : Js.length <= 5 := by
  obtain ⟨l, hn⟩ := h.num
  have := hn.len
  rw [<- h.rep.same, List.length_map] at this
  omega
 exact roomJob_any h.rep.room hJl hJ
theorem FrAt.sofar (h : FrAt w w4 wr rb sl lo ub ob N vj ps b Js v) {i : Nat} {P : PJ} {p : Pup} (hi : b.js[i]? = some P) (hp : ps[i]? = some p) :
  P.m.used <= p.out.2.2 /\ P.m.out <+: p.out.2.1 /\ (P.done = true -> (P.m.over.getD 0, P.m.out, P.m.used) = p.out) /\ (P.done = false -> P.m.over.getD 0 = 0) /\ P.m.used <= 3000 := by
 have hG := h.good.good i P hi
 obtain ⟨l, hn⟩ := h.num
 have he := endM_ok p
 have h1 := hG.rch
 rw [endsOf_some hp] at h1
 have h2 := rch_mono h1
 rw [he.2.2.1, he.2.2.2] at h2
 refine ⟨h2.1, h2.2, fun hd => ?_, fun hd => ?_, Nat.le_trans hG.us hG.fu⟩
 ·obtain ⟨o1, o2, o3⟩ := done_out h.good hn hp hi hd
  rw [o1, o2, o3]
  rfl
 ·have := (hn.num i P hi).2.1
  rw [hd] at this
  cases ho : P.m.over with
  | none => rfl
  | some x => rw [ho] at this; cases this
end
section
variable {w wr w' : World} {rb sl ab : Nat} {vj : Value} {ps : List Pup} {K : Nat} {l m : List Nat} {b : PRm} {Js : List JM} {v : Value}
end
theorem PupAt.under {w W : World} {v : Value} {ps : List Pup} (h : PupAt w v ps) (hb : Below w.heap.size w W) : PupAt W v ps := by
 obtain ⟨a, cap, rfl, h3, h4⟩ := h
 refine ⟨a, cap, rfl, h3, ?_⟩
 rcases h4 with h4 | ⟨b, off, rfl, h5, h6⟩
 ·exact .inl h4
 ·refine .inr ⟨b, off, rfl, Nat.lt_of_lt_of_le h5 hb.size, fun i p hp => ?_⟩
  obtain ⟨g1, g2, vr, vi, g3, g4, g5, g6, g7⟩ := h6 i p hp
  exact ⟨g1, g2, vr, vi, by rw [hb.cell (p := ⟨b, off + i * 3, none⟩) h5]; exact g3, by rw [hb.cell (p := ⟨b, off + i * 3 + 1, none⟩) h5]; exact g4, by rw [hb.cell (p := ⟨b, off + i * 3 + 2, none⟩) h5]; exact g5, g6.under hb, g7.under hb⟩
theorem Tryz.infoOut : (Tryz.prog.info? 39).map (fun i => (i.zero, i.size, i.bytes)) = some (some (.agg #[.int .i64 0, .slice none 0 0, .int .i64 0]), 3, 40) := by kernel_rfl
theorem fair_start {w w1 wr : World} {rb q N : Nat} {vj vv : Value} {Js : List JM} {ps : List Pup} {s : Value} {qs : List Q3} (hB1 : Below w.heap.size w w1) (hrep : RRep w1 rb (1 + q) vj vv Js (pushAll ⟨[], []⟩ (ps.take 5))) (hfoot : ∀ b, RFoot rb vj vv Js b -> w.heap.size <= b) (hN : min ps.length 5 = N) (hB : Below w1.heap.size w1 wr) (hW : WhAt w1.heap.size wr s qs) :
  FrAt w ((wr.alloc (.cells #[.int .i64 0, .int .i64 0, .int .i64 0, .int .i64 0, .int .i64 0] 74)).alloc (.cells #[.int .i64 0, .int .i64 0, .int .i64 0, .int .i64 0, .int .i64 0] 74)) ((wr.alloc (.cells #[.int .i64 0, .int .i64 0, .int .i64 0, .int .i64 0, .int .i64 0] 74)).alloc (.cells #[.int .i64 0, .int .i64 0, .int .i64 0, .int .i64 0, .int .i64 0] 74)) rb (1 + q) w1.heap.size wr.heap.size (wr.heap.size + 1) N vj ps (pushAll ⟨[], []⟩ (ps.take 5)) Js vv /\ ArrAt ((wr.alloc (.cells #[.int .i64 0, .int .i64 0, .int .i64 0, .int .i64 0, .int .i64 0] 74)).alloc (.cells #[.int .i64 0, .int .i64 0, .int .i64 0, .int .i64 0, .int .i64 0] 74)) wr.heap.size (usOf (pushAll ⟨[], []⟩ (ps.take 5))) /\ ArrAt ((wr.alloc (.cells #[.int .i64 0, .int .i64 0, .int .i64 0, .int .i64 0, .int .i64 0] 74)).alloc (.cells #[.int .i64 0, .int .i64 0, .int .i64 0, .int .i64 0, .int .i64 0] 74)) (wr.heap.size + 1) (dnOf (pushAll ⟨[], []⟩ (ps.take 5))) /\ WhAt w1.heap.size ((wr.alloc (.cells #[.int .i64 0, .int .i64 0, .int .i64 0, .int .i64 0, .int .i64 0] 74)).alloc (.cells #[.int .i64 0, .int .i64 0, .int .i64 0, .int .i64 0, .int .i64 0] 74)) s qs /\ ∀ (x : Nat), (x = wr.heap.size ∨ x = wr.heap.size + 1) -> (∀ y ∈ qs, ∀ k, (Value.slice y.2.1 y.1.out.2.1.length y.2.2).ownBlock = some k -> k ≠ x) /\ (∀ k, s.ownBlock = some k -> k ≠ x) := by
 have hb4 := up_two wr (.cells #[.int .i64 0, .int .i64 0, .int .i64 0, .int .i64 0, .int .i64 0] 74) (.cells #[.int .i64 0, .int .i64 0, .int .i64 0, .int .i64 0, .int .i64 0] 74)
 have hs4 : ((wr.alloc (.cells #[.int .i64 0, .int .i64 0, .int .i64 0, .int .i64 0, .int .i64 0] 74)).alloc (.cells #[.int .i64 0, .int .i64 0, .int .i64 0, .int .i64 0, .int .i64 0] 74)).heap.size = wr.heap.size + 2 := by simp
 obtain ⟨t1, t2, t3, t4⟩ := two_cells (Below.refl _ ((wr.alloc (.cells #[.int .i64 0, .int .i64 0, .int .i64 0, .int .i64 0, .int .i64 0] 74)).alloc (.cells #[.int .i64 0, .int .i64 0, .int .i64 0, .int .i64 0, .int .i64 0] 74)))
 have hBx := hB.trans (hb4.mono hB.size)
 generalize ((wr.alloc (.cells #[.int .i64 0, .int .i64 0, .int .i64 0, .int .i64 0, .int .i64 0] 74)).alloc (.cells #[.int .i64 0, .int .i64 0, .int .i64 0, .int .i64 0, .int .i64 0] 74)) = w4 at *
 have hsz1 := hB1.size
 have hsz2 := hB.size
 have hz : ∀ (i : Nat) (P : PJ), (pushAll ⟨[], []⟩ (ps.take 5)).js[i]? = some P -> P.m.used = 0 /\ P.done = false := fun i P hi => by
  rcases pushAll_js (ps.take 5) _ i P hi with h | ⟨p, _, _, rfl⟩
  ·simp at h
  ·exact ⟨rfl, rfl⟩
 have hu0 : ∀ i, usOf (pushAll ⟨[], []⟩ (ps.take 5)) i = 0 := fun i => by
  unfold usOf
  cases e : (pushAll ⟨[], []⟩ (ps.take 5)).js[i]? with
  | none => rfl
  | some P => exact (hz i P e).1
 have hd0 : ∀ i, dnOf (pushAll ⟨[], []⟩ (ps.take 5)) i = 0 := fun i => by
  unfold dnOf
  cases e : (pushAll ⟨[], []⟩ (ps.take 5)).js[i]? with
  | none => rfl
  | some P => simp [(hz i P e).2]
 have hfive : ∀ i, i < 5 -> (#[Value.int .i64 0, .int .i64 0, .int .i64 0, .int .i64 0, .int .i64 0])[i]? = some (Value.int .i64 0) := fun i hi => by
  have : i = 0 ∨ i = 1 ∨ i = 2 ∨ i = 3 ∨ i = 4 := by omega
  rcases this with rfl | rfl | rfl | rfl | rfl <;> rfl
 have hn0 := pushAll_pn (ps.take 5)
 rw [List.length_take, Nat.min_comm, hN] at hn0
 refine ⟨⟨pushAll_good5 ps, ⟨[], hn0⟩, pushAll_pf ps _, hrep.below hBx, fun x hx => ⟨hfoot x hx, .inl (hrep.room.footlt hx)⟩, fun k _ _ _ _ => rfl, Nat.le_refl _, hsz1, by omega, hB1.trans (hBx.mono hsz1)⟩, ⟨fun i hi => ?_, t3⟩, ⟨fun i hi => ?_, t4⟩, hW.below hb4, fun x hx => ⟨fun y hy k e => ?_, fun k e => ?_⟩⟩
 ·rw [hu0]; exact t1 i _ (hfive i hi)
 ·rw [hd0]; exact t2 i _ (hfive i hi)
 ·have := ((hW.out y hy).lt k e).2; omega
 ·have := (hW.own.lt k e).2; omega
theorem row_intsC {w : World} {base : Nat} {a : Option Addr} {n cap : Nat} {xs : List Int} (h : w.ownsRow base 3 1 (.slice a n cap) n (xs.map (.int .i64))) (hn : xs.length = n) (hl : n <= 1000000) : IntsC w (.slice a n cap) xs := by
 subst hn
 refine ⟨a, cap, rfl, hl, ?_⟩
 by_cases h0 : xs = []
 ·exact .inl h0
 ·obtain ⟨tb, cap2, e, hb, hlt⟩ := h.form (List.length_pos_iff.2 h0)
  cases e
  refine .inr ⟨tb, 0, rfl, hlt, fun i hi => ?_⟩
  have := h.cellAt i (by simpa using hi)
  rw [Nat.zero_add, this, List.getElem?_map, List.getElem?_eq_getElem hi]
  simp [List.getD, hi]
theorem kept_c {w w' : World} {b o : Nat} {v : Value} (hb : Below w.heap.size w w') (h : w.cell? ⟨b, o, none⟩ = some v) : w'.cell? ⟨b, o, none⟩ = some v :=
 (hb.cell (p := ⟨b, o, none⟩) (lt_of_cell h)).trans h
structure StepAt (wi : World) (g ub ob x : Nat) (ra : Option Addr) (rc uo od : Nat) (Q : PJ) (p : Pup) : Prop where
 c0 : wi.cell? ⟨g, x * 3, none⟩ = some (.int .i64 (p.out.1 : Nat))
 c1 : wi.cell? ⟨g, x * 3 + 1, none⟩ = some (.slice ra p.out.2.1.length rc)
 c2 : wi.cell? ⟨g, x * 3 + 2, none⟩ = some (.int .i64 (p.out.2.2 : Nat))
 u : wi.cell? ⟨ub, x, none⟩ = some (.int .i64 (uo : Nat))
 d : wi.cell? ⟨ob, x, none⟩ = some (.int .i64 (od : Nat))
 uf : wi.frozen? ⟨ub, x, none⟩ = false
 df : wi.frozen? ⟨ob, x, none⟩ = false
 le : uo <= Q.m.used
 dle : od <= (if Q.done then 1 else 0)
 ule : Q.m.used <= p.out.2.2
 out : Q.m.out = p.out.2.1.take Q.m.out.length
 ole : Q.m.out.length <= p.out.2.1.length
 o60 : p.out.2.1.length <= 60
 rcl : p.out.2.1.length <= rc
 yes : Q.done = true -> (Q.m.over.getD 0, Q.m.out, Q.m.used) = p.out
 no : Q.done = false -> Q.m.over.getD 0 = 0
 u3 : Q.m.used <= 3000
 ints : IntsC wi (.slice ra p.out.2.1.length rc) p.out.2.1
theorem fair_step {w w4 wi : World} {rb sl lo ub ob N x : Nat} {vj vc : Value} {ps : List Pup} {b c : PRm} {Jc : List JM} {sa : Option Addr} {sc : Nat} {qs : List Q3} (hF : FrAt w w4 wi rb sl lo ub ob N vj ps c Jc vc) (hb : ∃ l, PN N b l) (hR : RelB b c) (hA : ArrAt wi ub (fun i => if i < x then usOf c i else usOf b i)) (hD : ArrAt wi ob (fun i => if i < x then dnOf c i else dnOf b i)) (hW : WhAt lo w4 (.slice sa N sc) qs)
  (hap : ∀ y, (y = ub ∨ y = ob) -> (∀ z ∈ qs, ∀ k, (Value.slice z.2.1 z.1.out.2.1.length z.2.2).ownBlock = some k -> k ≠ y) /\ (∀ k, (Value.slice sa N sc).ownBlock = some k -> k ≠ y)) (hq : qs.map (·.1) = ps.take N) (hN : min ps.length 5 = N) (hx : x < N) :
  ∃ (Q : PJ) (p : Pup) (g : Nat) (ra : Option Addr) (rc uo od : Nat), c.js[x]? = some Q /\ sa = some ⟨g, 0, none⟩ /\ StepAt wi g ub ob x ra rc uo od Q p := by
 obtain ⟨lb, hb⟩ := hb
 obtain ⟨lc, hc⟩ := hF.num
 have hxc : x < c.js.length := by rw [hc.len]; exact hx
 have hxb : x < b.js.length := by rw [hb.len]; exact hx
 have hxp : x < ps.length := by omega
 have hx5 : x < 5 := by omega
 have hQ : c.js[x]? = some c.js[x] := List.getElem?_eq_getElem hxc
 have hP : b.js[x]? = some b.js[x] := List.getElem?_eq_getElem hxb
 have hp : ps[x]? = some ps[x] := List.getElem?_eq_getElem hxp
 obtain ⟨Q2, q1, q2, q3⟩ := hR x _ hP
 rw [hQ] at q1
 cases q1
 have hW2 : WhAt lo wi (.slice sa N sc) qs := hF.whole hW (fun z hz k e => ⟨(hap ub (.inl rfl)).1 z hz k e, (hap ob (.inr rfl)).1 z hz k e⟩) (fun k e => ⟨(hap ub (.inl rfl)).2 k e, (hap ob (.inr rfl)).2 k e⟩)
 have hql : qs.length = N := by have := congrArg List.length hq; rw [List.length_map, List.length_take] at this; omega
 have hxq : x < qs.length := by omega
 have hqx : qs[x]? = some qs[x] := List.getElem?_eq_getElem hxq
 have hq1 : (qs[x]).1 = ps[x] := by
  have e1 : (qs.map (·.1))[x]? = some (qs[x]).1 := by rw [List.getElem?_map, hqx]; rfl
  rw [hq, List.getElem?_take, if_pos hx, hp] at e1
  exact (Option.some.inj e1).symm
 have hown := hW2.own
 rw [hql] at hown
 obtain ⟨g, cap2, e, hgb, hglt⟩ := hown.form (by omega)
 cases e
 have hcel : ∀ k, k < 3 -> wi.cell? ⟨g, x * 3 + k, none⟩ = (itO qs[x])[k]? := fun k hk => by
  rw [hown.cellAt (x * 3 + k) (by omega)]
  exact flatO_get hqx k hk
 have hmem : qs[x] ∈ qs := List.getElem_mem hxq
 have hout := hW2.out _ hmem
 have hcap := hW2.cap _ hmem
 obtain ⟨s1, s2, s3, s4, s5⟩ := hF.sofar hQ hp
 have e0 := hcel 0 (by omega)
 have e1 := hcel 1 (by omega)
 have e2 := hcel 2 (by omega)
 unfold itO at e0 e1 e2
 rw [hq1] at e0 e1 e2 hout hcap
 have hau := hA.c x hx5
 have had := hD.c x hx5
 rw [if_neg (Nat.lt_irrefl x)] at hau had
 refine ⟨c.js[x], ps[x], g, (qs[x]).2.1, (qs[x]).2.2, usOf b x, dnOf b x, hQ, rfl, e0, e1, e2, hau, had, hA.fz x, hD.fz x, ?_, ?_, s1, ?_, s2.length_le, hcap, cap_of hout, s3, s4, s5, row_intsC hout rfl (by omega)⟩
 ·unfold usOf; rw [hP]; exact q2
 ·unfold dnOf; rw [hP]
  dsimp only
  by_cases hd : b.js[x].done = true
  ·have := q3 hd
   rw [this]
   exact Nat.le_refl _
  ·rw [if_neg hd]; exact Nat.zero_le _
 ·obtain ⟨t, ht⟩ := s2
  rw [<- ht, List.take_left']
  rfl
structure LookAt (wr W : World) (bx oc ol ou : Nat) (oa : Option Addr) (oc2 : Nat) (out : List Int) : Prop where
 bel : Below wr.heap.size wr W
 k0 : W.cell? ⟨bx, 0, none⟩ = some (.int .i64 (oc : Nat))
 k1 : W.cell? ⟨bx, 1, none⟩ = some (.slice oa ol oc2)
 k2 : W.cell? ⟨bx, 2, none⟩ = some (.int .i64 (ou : Nat))
 ints : IntsC W (.slice oa ol oc2) out
theorem LookAt.next {wr W W' : World} {bx oc ol ou oc2 : Nat} {oa : Option Addr} {out : List Int} (h : LookAt wr W bx oc ol ou oa oc2 out) (hb : Below W.heap.size W W') : LookAt wr W' bx oc ol ou oa oc2 out :=
 ⟨h.bel.trans (hb.mono h.bel.size), kept_c hb h.k0, kept_c hb h.k1, kept_c hb h.k2, h.ints.below hb⟩
theorem look_new {wr w6 : World} {oc ol ou oc2 : Nat} {oa : Option Addr} {out : List Int} (hb : Below wr.heap.size wr w6) (h : OutAt w6 (.agg #[.int .i64 (oc : Nat), .slice oa ol oc2, .int .i64 (ou : Nat)]) (oc, out, ou)) : LookAt wr (w6.alloc (.cells #[.int .i64 (oc : Nat), .slice oa ol oc2, .int .i64 (ou : Nat)] 39)) w6.heap.size oc ol ou oa oc2 out := by
 obtain ⟨u, hu, h⟩ := h
 have e : u = .slice oa ol oc2 := by simpa using hu.symm
 subst e
 have hn : Below w6.heap.size w6 (w6.alloc (.cells #[.int .i64 (oc : Nat), .slice oa ol oc2, .int .i64 (ou : Nat)] 39)) := (Below.refl _ _).alloc (Nat.le_refl _) _
 exact ⟨hb.trans (hn.mono hb.size), World.cell?_alloc_new w6 _ _ 0, World.cell?_alloc_new w6 _ _ 1, World.cell?_alloc_new w6 _ _ 2, h.below hn⟩
theorem StepAt.next {wi W : World} {g ub ob x : Nat} {ra : Option Addr} {rc uo od : Nat} {Q : PJ} {p : Pup} (h : StepAt wi g ub ob x ra rc uo od Q p) (hb : Below wi.heap.size wi W) : StepAt W g ub ob x ra rc uo od Q p :=
 ⟨kept_c hb h.c0, kept_c hb h.c1, kept_c hb h.c2, kept_c hb h.u, kept_c hb h.d, (World.frozen?_of_block (w := wi) (hb.block ub (lt_of_cell h.u))).trans h.uf, (World.frozen?_of_block (w := wi) (hb.block ob (lt_of_cell h.d))).trans h.df, h.le, h.dle, h.ule, h.out, h.ole, h.o60, h.rcl, h.yes, h.no, h.u3, h.ints.below hb⟩
theorem StepAt.first {W : World} {g ub ob x : Nat} {ra : Option Addr} {rc uo od : Nat} {Q : PJ} {p : Pup} {v : Value} (h : StepAt W g ub ob x ra rc uo od Q p) (hi : IntsC W v Q.m.out) : Calls Tryz.prog 36 #[v, .slice ra Q.m.out.length rc] W fun e w' => e = .returned (.bool true) /\ Below W.heap.size W w' := by
 have hf := h.ints.first Q.m.out.length h.ole
 refine (sameInts_any _ _ _ _ W hi hf).mono ?_
 rintro e w' ⟨rfl, hb⟩
 exact ⟨by rw [decide_eq_true h.out], hb⟩
theorem StepAt.alike {W : World} {g ub ob x : Nat} {ra oa : Option Addr} {rc uo od oc2 : Nat} {Q : PJ} {p : Pup} (h : StepAt W g ub ob x ra rc uo od Q p) (hi : IntsC W (.slice oa Q.m.out.length oc2) Q.m.out) : Calls Tryz.prog 26 #[.agg #[.int .i64 ((Q.m.over.getD 0 : Nat) : Int), .slice oa Q.m.out.length oc2, .int .i64 (Q.m.used : Nat)], .agg #[.int .i64 (p.out.1 : Nat), .slice ra p.out.2.1.length rc, .int .i64 (p.out.2.2 : Nat)]] W fun e w' => ∃ r : Bool, e = .returned (.bool r) /\ (Q.done = true -> r = true) /\ Below W.heap.size W w' := by
 refine (same_any (o := (Q.m.over.getD 0, Q.m.out, Q.m.used)) (p := p.out) ⟨_, rfl, hi⟩ ⟨_, rfl, h.ints⟩).mono ?_
 rintro e w' ⟨r, rfl, hr, hb⟩
 exact ⟨r, rfl, fun hd => hr (h.yes hd), hb⟩
theorem usOf_at {b : PRm} {i : Nat} {P : PJ} (h : b.js[i]? = some P) : usOf b i = P.m.used := by unfold usOf; rw [h]
theorem dnOf_at {b : PRm} {i : Nat} {P : PJ} (h : b.js[i]? = some P) : dnOf b i = if P.done then 1 else 0 := by unfold dnOf; rw [h]
theorem past {b : PRm} {N i : Nat} {l : List Nat} (h : PN N b l) (hi : N <= i) : usOf b i = 0 /\ dnOf b i = 0 := by
 have : b.js[i]? = none := List.getElem?_eq_none (by rw [h.len]; exact hi)
 unfold usOf dnOf
 rw [this]
 exact ⟨rfl, rfl⟩
theorem fair_next {w w4 wi W : World} {rb sl lo ub ob N x d : Nat} {vj vc : Value} {ps : List Pup} {b c : PRm} {Jc : List JM} {Q : PJ} (hF : FrAt w w4 wi rb sl lo ub ob N vj ps c Jc vc) (hA : ArrAt wi ub (fun i => if i < x then usOf c i else usOf b i)) (hD : ArrAt wi ob (fun i => if i < x then dnOf c i else dnOf b i)) (hB : Below wi.heap.size wi W) (hQ : c.js[x]? = some Q) (hx5 : x < 5) (hne : ub ≠ ob) (hd : (if Q.done then 1 else 0) = d) :
  FrAt w w4 ((W.setCell ⟨ub, x, none⟩ (.int .i64 (Q.m.used : Nat))).setCell ⟨ob, x, none⟩ (.int .i64 (d : Nat))) rb sl lo ub ob N vj ps c Jc vc /\ ArrAt ((W.setCell ⟨ub, x, none⟩ (.int .i64 (Q.m.used : Nat))).setCell ⟨ob, x, none⟩ (.int .i64 (d : Nat))) ub (fun i => if i < x + 1 then usOf c i else usOf b i) /\ ArrAt ((W.setCell ⟨ub, x, none⟩ (.int .i64 (Q.m.used : Nat))).setCell ⟨ob, x, none⟩ (.int .i64 (d : Nat))) ob (fun i => if i < x + 1 then dnOf c i else dnOf b i) := by
 have hul := hF.ulo
 have hsz := hF.siz
 have hA2 := hA.same (hB.block ub (by omega))
 have hD2 := hD.same (hB.block ob (by omega))
 refine ⟨((hF.below hB).set (.inl rfl) x _).set (.inr rfl) x _, ?_, ?_⟩
 ·refine ((hA2.set hx5 Q.m.used).same (Below.heap_setCell _ _ _ _ hne)).congr fun i _ => ?_
  by_cases e : i = x
  ·subst e; rw [if_pos rfl, if_pos (Nat.lt_succ_self _), usOf_at hQ]
  ·rw [if_neg e]
   by_cases h2 : i < x
   ·rw [if_pos h2, if_pos (by omega)]
   ·rw [if_neg h2, if_neg (by omega)]
 ·refine ((hD2.same (Below.heap_setCell _ _ _ _ hne.symm)).set hx5 d).congr fun i _ => ?_
  by_cases e : i = x
  ·subst e; rw [if_pos rfl, if_pos (Nat.lt_succ_self _), dnOf_at hQ, hd]
  ·rw [if_neg e]
   by_cases h2 : i < x
   ·rw [if_pos h2, if_pos (by omega)]
   ·rw [if_neg h2, if_neg (by omega)]
theorem fair_end {sl L H : Nat} {c : PRm} (hF : PF sl c) (h3 : H <= 3000) (hL : L = 1000000 ∨ ∃ (i : Nat) (Q : PJ), c.js[i]? = some Q /\ Q.done = false /\ L = Q.m.used) (hH : H = 0 ∨ ∃ (i : Nat) (Q : PJ), c.js[i]? = some Q /\ Q.done = false /\ H = Q.m.used) : H <= L + sl := by
 rcases hH with rfl | ⟨i, Q, q1, q2, rfl⟩
 ·omega
 ·rcases hL with rfl | ⟨j, P, p1, p2, rfl⟩
  ·omega
  ·exact hF.fair i j Q P q1 p1 q2 p2
theorem fair_low {c : PRm} {x L H : Nat} {Q : PJ} (hQ : c.js[x]? = some Q) (hd : Q.done = false) (hL : L = 1000000 ∨ ∃ (i : Nat) (Q : PJ), c.js[i]? = some Q /\ Q.done = false /\ L = Q.m.used) (hH : H = 0 ∨ ∃ (i : Nat) (Q : PJ), c.js[i]? = some Q /\ Q.done = false /\ H = Q.m.used) :
  (min L Q.m.used = 1000000 ∨ ∃ (i : Nat) (P : PJ), c.js[i]? = some P /\ P.done = false /\ min L Q.m.used = P.m.used) /\ (max H Q.m.used = 0 ∨ ∃ (i : Nat) (P : PJ), c.js[i]? = some P /\ P.done = false /\ max H Q.m.used = P.m.used) := by
 constructor
 ·by_cases h : L <= Q.m.used
  ·rw [Nat.min_eq_left h]; exact hL
  ·rw [Nat.min_eq_right (by omega)]; exact .inr ⟨x, Q, hQ, hd, rfl⟩
 ·by_cases h : Q.m.used <= H
  ·rw [Nat.max_eq_left h]; exact hH
  ·rw [Nat.max_eq_right (by omega)]; exact .inr ⟨x, Q, hQ, hd, rfl⟩
end Go.Proofs.YtklobognaldjpaaGreat
