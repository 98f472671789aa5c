/- The machine in memory. The machine: the next word; the stack; its end. A law of no program: append(s, make([]T, k)...) where the call owns the row, of elements of one cell. -/
import Derived.Test.YtklobognaldjpaaGreatCCm3
import Derived.Lib.AppendZerosOnto
set_option maxRecDepth 1000000
set_option maxHeartbeats 1000000
namespace Go.Proofs.YtklobognaldjpaaGreat
open Go.RowKit
structure MR where
 pl : Value
 st : Value
 ca : Value
 ou : Value
def MR.has (R : MR) (b : Nat) : Prop := R.pl.ownBlock = some b ∨ R.st.ownBlock = some b ∨ R.ca.ownBlock = some b ∨ R.ou.ownBlock = some b
def ApartV (a b : Value) : Prop := ∀ k, a.ownBlock = some k -> b.ownBlock ≠ some k
theorem ApartV.symm {a b : Value} (h : ApartV a b) : ApartV b a := fun k hk hb => h k hb hk
def InpV (Q : Nat -> Prop) (w : World) (v : Value) (xs : List Int) : Prop :=
 ∃ a c, v = .slice a xs.length c /\ xs.length <= c /\ c <= maxLen /\ (xs = [] ∨ ∃ b o, a = some ⟨b, o, none⟩ /\ Q b /\ ∀ j x, xs[j]? = some x -> w.cell? ⟨b, o + j, none⟩ = some (.int .i32 x))
def flatF (l : List (Nat × Nat)) : List Value := l.flatMap fun f => [.int .i64 (f.1 : Nat), .int .i64 (f.2 : Nat)]
def Rng (l : List Int) : Prop := ∀ v ∈ l, -2147483648 <= v /\ v <= 2147483647
def CellsAt (xb : Nat) (w : World) (cs : List Value) : Prop := ∀ o v, cs[o]? = some v -> w.cell? ⟨xb, o, none⟩ = some v
theorem CellsAt.set {xb : Nat} {w : World} {cs : List Value} (h : CellsAt xb w cs) {o : Nat} (ho : o < cs.length) (v : Value) : CellsAt xb (w.setCell ⟨xb, o, none⟩ v) (cs.set o v) := by
 intro k u hk
 by_cases e : o = k
 ·subst e
  rw [List.getElem?_set_self ho] at hk
  cases hk
  exact World.cell?_setCell_same _ _ _ (h o cs[o] (List.getElem?_eq_getElem ho))
 ·rw [List.getElem?_set_ne e] at hk
  rw [World.cell?_setCell_other _ _ _ _ (by intro e2; cases e2; exact e rfl)]
  exact h k u hk
theorem CellsAt.block {xb : Nat} {w w' : World} {cs : List Value} (h : CellsAt xb w cs) (hb : w'.heap[xb]? = w.heap[xb]?) : CellsAt xb w' cs := fun o v hv => by
 rw [World.cell?_of_block (w := w) hb]; exact h o v hv
structure Rws (xb wb : Nat) (W : List Nat) (Q : Nat -> Prop) (w : World) (pls stk : List Int) (cls : List (Nat × Nat)) (ots inps : List Int) (R : MR) (vi : Value) : Prop where
 pl : w.ownsRow 0 21 1 R.pl pls.length (pls.map (.int .i32))
 st : w.ownsRow 0 21 1 R.st stk.length (stk.map (.int .i32))
 ca : w.ownsRow 0 228 2 R.ca cls.length (flatF cls)
 ou : w.ownsRow 0 3 1 R.ou ots.length (ots.map (.int .i64))
 inp : InpV Q w vi inps
 wds : ∀ j x, W[j]? = some x -> w.cell? ⟨wb, j, none⟩ = some (.int .i64 (x : Nat))
 s1 : ApartV R.pl R.st
 s2 : ApartV R.pl R.ca
 s3 : ApartV R.pl R.ou
 s4 : ApartV R.st R.ca
 s5 : ApartV R.st R.ou
 s6 : ApartV R.ca R.ou
 qw : Q wb
 far : ∀ b, Q b -> b < w.heap.size /\ b ≠ xb /\ ¬ R.has b
 xr : ¬ R.has xb
 xlt : xb < w.heap.size
 rp : Rng pls
 rs : Rng stk
 ri : Rng inps
 c30 : cls.length <= 30
 o60 : ots.length <= 60
def mcCells (wb wc : Nat) (W : List Nat) (m : MS) (fuel limit : Nat) (waits : Bool) (R : MR) (vi : Value) : List Value :=
 [.slice (some ⟨wb, 0, none⟩) W.length wc, .int .i64 (m.pc : Nat), R.pl, R.st, .int .i64 (m.base : Nat), R.ca, vi, .int .i64 (fuel : Nat), .int .i64 (limit : Nat), .int .i64 ((m.over.getD 0 : Nat) : Int), R.ou, .int .i64 (m.used : Nat), .bool m.over.isSome, .bool waits]
structure MC (xb wb wc : Nat) (W : List Nat) (Q : Nat -> Prop) (w : World) (m : MS) (fuel limit : Nat) (waits : Bool) (R : MR) (vi : Value) : Prop where
 cel : CellsAt xb w (mcCells wb wc W m fuel limit waits R vi)
 frz : ∀ o, w.frozen? ⟨xb, o, none⟩ = false
 rows : Rws xb wb W Q w m.places m.stack m.calls m.out m.input R vi
def MM (xb : Nat) (R R' : MR) (w w' : World) : Prop := Fr (fun b => b = xb ∨ R.has b) w w' /\ ∀ k, R'.has k -> R.has k ∨ w.heap.size <= k
theorem MM.refl (xb : Nat) (R : MR) (w : World) : MM xb R R w w := ⟨Fr.refl _ _, fun _ h => .inl h⟩
theorem MM.of_below {xb : Nat} {R : MR} {w w' : World} (h : Below w.heap.size w w') : MM xb R R w w' := ⟨Fr.of_below h, fun _ h => .inl h⟩
theorem MM.trans {xb : Nat} {R R' R'' : MR} {a b c : World} (h : MM xb R R' a b) (k : MM xb R' R'' b c) : MM xb R R'' a c := by
 refine ⟨⟨k.1.os.trans h.1.os, k.1.tape.trans h.1.tape, k.1.output.trans h.1.output, Nat.le_trans h.1.size k.1.size, fun i hi hn => ?_⟩, fun i hi => ?_⟩
 ·refine (k.1.block i (Nat.lt_of_lt_of_le hi h.1.size) ?_).trans (h.1.block i hi hn)
  rintro (e | e)
  ·exact hn (.inl e)
  ·rcases h.2 i e with h2 | h2
   ·exact hn (.inr h2)
   ·omega
 ·rcases k.2 i hi with k2 | k2
  ·exact h.2 i k2
  ·exact .inr (Nat.le_trans h.1.size k2)
section
variable {xb wb wc fuel limit : Nat} {W : List Nat} {Q : Nat -> Prop} {w w' : World} {m : MS} {waits : Bool} {R : MR} {vi : Value} {pls stk ots inps : List Int} {cls : List (Nat × Nat)}
theorem InpV.same {v : Value} {xs : List Int} (h : InpV Q w v xs) (hk : ∀ b, Q b -> w'.heap[b]? = w.heap[b]?) : InpV Q w' v xs := by
 obtain ⟨a, c, h1, h2, h3, h4⟩ := h
 refine ⟨a, c, h1, h2, h3, ?_⟩
 rcases h4 with h4 | ⟨b, o, h5, h6, h7⟩
 ·exact .inl h4
 ·exact .inr ⟨b, o, h5, h6, fun j x hj => by rw [World.cell?_of_block (w := w) (hk b h6)]; exact h7 j x hj⟩
theorem owns_same {base : Nat} {e : TypeId} {size : Nat} {v : Value} {n : Nat} {xs : List Value} (h : w.ownsRow base e size v n xs) (hk : ∀ b, v.ownBlock = some b -> w'.heap[b]? = w.heap[b]?) : w'.ownsRow base e size v n xs := by
 obtain ⟨h1, h2⟩ := h
 refine ⟨h1, ?_⟩
 rcases h2 with h2 | ⟨g, cap, cur, hv, hg, hh, r⟩
 ·exact .inl h2
 ·exact .inr ⟨g, cap, cur, hv, hg, by rw [hk g (by rw [hv]; rfl)]; exact hh, r⟩
theorem Rws.same (h : Rws xb wb W Q w pls stk cls ots inps R vi) (hs : w.heap.size <= w'.heap.size) (hk : ∀ b, Q b ∨ R.has b -> w'.heap[b]? = w.heap[b]?) : Rws xb wb W Q w' pls stk cls ots inps R vi :=
 ⟨owns_same h.pl fun b hb => hk b (.inr (.inl hb)), owns_same h.st fun b hb => hk b (.inr (.inr (.inl hb))), owns_same h.ca fun b hb => hk b (.inr (.inr (.inr (.inl hb)))), owns_same h.ou fun b hb => hk b (.inr (.inr (.inr (.inr hb)))),
  h.inp.same fun b hb => hk b (.inl hb), fun j x hj => by rw [World.cell?_of_block (w := w) (hk wb (.inl h.qw))]; exact h.wds j x hj, h.s1, h.s2, h.s3, h.s4, h.s5, h.s6, h.qw,
  fun b hb => ⟨Nat.lt_of_lt_of_le (h.far b hb).1 hs, (h.far b hb).2⟩, h.xr, Nat.lt_of_lt_of_le h.xlt hs, h.rp, h.rs, h.ri, h.c30, h.o60⟩
theorem Rws.setX (h : Rws xb wb W Q w pls stk cls ots inps R vi) (o : Nat) (v : Value) : Rws xb wb W Q (w.setCell ⟨xb, o, none⟩ v) pls stk cls ots inps R vi :=
 h.same (by simp [World.setCell]) fun b hb => Below.heap_setCell _ _ _ _ (by
  rintro rfl
  rcases hb with hb | hb
  ·exact (h.far _ hb).2.1 rfl
  ·exact h.xr hb)
theorem Rws.below (h : Rws xb wb W Q w pls stk cls ots inps R vi) (hb : Below w.heap.size w w') : Rws xb wb W Q w' pls stk cls ots inps R vi :=
 h.same hb.size fun b hb2 => hb.block b (by
  rcases hb2 with hb2 | hb2
  ·exact (h.far _ hb2).1
  ·rcases hb2 with e | e | e | e
   ·exact (h.pl.lt b e).2
   ·exact (h.st.lt b e).2
   ·exact (h.ca.lt b e).2
   ·exact (h.ou.lt b e).2)
theorem MC.below (h : MC xb wb wc W Q w m fuel limit waits R vi) (hb : Below w.heap.size w w') : MC xb wb wc W Q w' m fuel limit waits R vi :=
 ⟨h.cel.block (hb.block xb h.rows.xlt), fun o => by rw [World.frozen?_of_block (w := w) (hb.block xb h.rows.xlt)]; exact h.frz o, h.rows.below hb⟩
def NewRow (w : World) (v v' : Value) : Prop := v'.ownBlock = v.ownBlock ∨ ∀ k, v'.ownBlock = some k -> w.heap.size <= k
theorem apart_new {a v v' : Value} (h : ApartV a v) (hn : NewRow w v v') (hl : ∀ k, a.ownBlock = some k -> k < w.heap.size) : ApartV a v' := fun k hk e => by
 rcases hn with hn | hn
 ·exact h k hk (hn ▸ e)
 ·have := hn k e; have := hl k hk; omega
theorem Rws.lt (h : Rws xb wb W Q w pls stk cls ots inps R vi) : ∀ b, R.has b -> b < w.heap.size := by
 rintro b (e | e | e | e)
 ·exact (h.pl.lt b e).2
 ·exact (h.st.lt b e).2
 ·exact (h.ca.lt b e).2
 ·exact (h.ou.lt b e).2
theorem new_not {v v' : Value} (hn : NewRow w v v') {b : Nat} (hb : b < w.heap.size) (hv : v.ownBlock ≠ some b) : v'.ownBlock ≠ some b := fun e => by
 rcases hn with hn | hn
 ·exact hv (hn ▸ e)
 ·have := hn b e; omega
theorem Rws.stack (h : Rws xb wb W Q w pls stk cls ots inps R vi) {v' : Value} {s' : List Int} (hg : w.grownBy w' R.st.ownBlock) (ho : w'.ownsRow 0 21 1 v' s'.length (s'.map (.int .i32))) (hn : NewRow w R.st v') (hr : Rng s') :
  Rws xb wb W Q w' pls s' cls ots inps { R with st := v' } vi := by
 have hlt := h.lt
 have hb : ∀ b, b < w.heap.size -> R.st.ownBlock ≠ some b -> w'.heap[b]? = w.heap[b]? := fun b hb hne => hg.block b hb (fun e => hne e.symm)
 have hq : ∀ b, Q b -> w'.heap[b]? = w.heap[b]? := fun b hqb => hb b (h.far b hqb).1 fun e => (h.far b hqb).2.2 (.inr (.inl e))
 refine ⟨owns_same h.pl fun b e => hb b (h.pl.lt b e).2 (h.s1 b e), ho, owns_same h.ca fun b e => hb b (h.ca.lt b e).2 (h.s4.symm b e), owns_same h.ou fun b e => hb b (h.ou.lt b e).2 (h.s5.symm b e), h.inp.same hq,
  fun j x hj => by rw [World.cell?_of_block (w := w) (hq wb h.qw)]; exact h.wds j x hj, apart_new h.s1 hn fun k e => (h.pl.lt k e).2, h.s2, h.s3, (apart_new h.s4.symm hn fun k e => (h.ca.lt k e).2).symm, (apart_new h.s5.symm hn fun k e => (h.ou.lt k e).2).symm, h.s6, h.qw,
  fun b hqb => ⟨Nat.lt_of_lt_of_le (h.far b hqb).1 hg.size, (h.far b hqb).2.1, ?_⟩, ?_, Nat.lt_of_lt_of_le h.xlt hg.size, h.rp, hr, h.ri, h.c30, h.o60⟩
 ·rintro (e | e | e | e)
  ·exact (h.far b hqb).2.2 (.inl e)
  ·exact new_not hn (h.far b hqb).1 (fun e2 => (h.far b hqb).2.2 (.inr (.inl e2))) e
  ·exact (h.far b hqb).2.2 (.inr (.inr (.inl e)))
  ·exact (h.far b hqb).2.2 (.inr (.inr (.inr e)))
 ·rintro (e | e | e | e)
  ·exact h.xr (.inl e)
  ·exact new_not hn h.xlt (fun e2 => h.xr (.inr (.inl e2))) e
  ·exact h.xr (.inr (.inr (.inl e)))
  ·exact h.xr (.inr (.inr (.inr e)))
theorem Rws.places (h : Rws xb wb W Q w pls stk cls ots inps R vi) {v' : Value} {s' : List Int} (hg : w.grownBy w' R.pl.ownBlock) (ho : w'.ownsRow 0 21 1 v' s'.length (s'.map (.int .i32))) (hn : NewRow w R.pl v') (hr : Rng s') :
  Rws xb wb W Q w' s' stk cls ots inps { R with pl := v' } vi := by
 have hlt := h.lt
 have hb : ∀ b, b < w.heap.size -> R.pl.ownBlock ≠ some b -> w'.heap[b]? = w.heap[b]? := fun b hb hne => hg.block b hb (fun e => hne e.symm)
 have hq : ∀ b, Q b -> w'.heap[b]? = w.heap[b]? := fun b hqb => hb b (h.far b hqb).1 fun e => (h.far b hqb).2.2 (.inl e)
 refine ⟨ho, owns_same h.st fun b e => hb b (h.st.lt b e).2 (h.s1.symm b e), owns_same h.ca fun b e => hb b (h.ca.lt b e).2 (h.s2.symm b e), owns_same h.ou fun b e => hb b (h.ou.lt b e).2 (h.s3.symm b e), h.inp.same hq,
  fun j x hj => by rw [World.cell?_of_block (w := w) (hq wb h.qw)]; exact h.wds j x hj, (apart_new h.s1.symm hn fun k e => (h.st.lt k e).2).symm, (apart_new h.s2.symm hn fun k e => (h.ca.lt k e).2).symm, (apart_new h.s3.symm hn fun k e => (h.ou.lt k e).2).symm, h.s4, h.s5, h.s6, h.qw,
  fun b hqb => ⟨Nat.lt_of_lt_of_le (h.far b hqb).1 hg.size, (h.far b hqb).2.1, ?_⟩, ?_, Nat.lt_of_lt_of_le h.xlt hg.size, hr, h.rs, h.ri, h.c30, h.o60⟩
 ·rintro (e | e | e | e)
  ·exact new_not hn (h.far b hqb).1 (fun e2 => (h.far b hqb).2.2 (.inl e2)) e
  ·exact (h.far b hqb).2.2 (.inr (.inl e))
  ·exact (h.far b hqb).2.2 (.inr (.inr (.inl e)))
  ·exact (h.far b hqb).2.2 (.inr (.inr (.inr e)))
 ·rintro (e | e | e | e)
  ·exact new_not hn h.xlt (fun e2 => h.xr (.inl e2)) e
  ·exact h.xr (.inr (.inl e))
  ·exact h.xr (.inr (.inr (.inl e)))
  ·exact h.xr (.inr (.inr (.inr e)))
theorem Rws.calls (h : Rws xb wb W Q w pls stk cls ots inps R vi) {v' : Value} {s' : List (Nat × Nat)} (hg : w.grownBy w' R.ca.ownBlock) (ho : w'.ownsRow 0 228 2 v' s'.length (flatF s')) (hn : NewRow w R.ca v') (hr : s'.length <= 30) :
  Rws xb wb W Q w' pls stk s' ots inps { R with ca := v' } vi := by
 have hlt := h.lt
 have hb : ∀ b, b < w.heap.size -> R.ca.ownBlock ≠ some b -> w'.heap[b]? = w.heap[b]? := fun b hb hne => hg.block b hb (fun e => hne e.symm)
 have hq : ∀ b, Q b -> w'.heap[b]? = w.heap[b]? := fun b hqb => hb b (h.far b hqb).1 fun e => (h.far b hqb).2.2 (.inr (.inr (.inl e)))
 refine ⟨owns_same h.pl fun b e => hb b (h.pl.lt b e).2 (h.s2 b e), owns_same h.st fun b e => hb b (h.st.lt b e).2 (h.s4 b e), ho, owns_same h.ou fun b e => hb b (h.ou.lt b e).2 (h.s6.symm b e), h.inp.same hq,
  fun j x hj => by rw [World.cell?_of_block (w := w) (hq wb h.qw)]; exact h.wds j x hj, h.s1, apart_new h.s2 hn fun k e => (h.pl.lt k e).2, h.s3, apart_new h.s4 hn fun k e => (h.st.lt k e).2, h.s5, (apart_new h.s6.symm hn fun k e => (h.ou.lt k e).2).symm, h.qw,
  fun b hqb => ⟨Nat.lt_of_lt_of_le (h.far b hqb).1 hg.size, (h.far b hqb).2.1, ?_⟩, ?_, Nat.lt_of_lt_of_le h.xlt hg.size, h.rp, h.rs, h.ri, hr, h.o60⟩
 ·rintro (e | e | e | e)
  ·exact (h.far b hqb).2.2 (.inl e)
  ·exact (h.far b hqb).2.2 (.inr (.inl e))
  ·exact new_not hn (h.far b hqb).1 (fun e2 => (h.far b hqb).2.2 (.inr (.inr (.inl e2)))) e
  ·exact (h.far b hqb).2.2 (.inr (.inr (.inr e)))
 ·rintro (e | e | e | e)
  ·exact h.xr (.inl e)
  ·exact h.xr (.inr (.inl e))
  ·exact new_not hn h.xlt (fun e2 => h.xr (.inr (.inr (.inl e2)))) e
  ·exact h.xr (.inr (.inr (.inr e)))
theorem Rws.outs (h : Rws xb wb W Q w pls stk cls ots inps R vi) {v' : Value} {s' : List Int} (hg : w.grownBy w' R.ou.ownBlock) (ho : w'.ownsRow 0 3 1 v' s'.length (s'.map (.int .i64))) (hn : NewRow w R.ou v') (hr : s'.length <= 60) :
  Rws xb wb W Q w' pls stk cls s' inps { R with ou := v' } vi := by
 have hlt := h.lt
 have hb : ∀ b, b < w.heap.size -> R.ou.ownBlock ≠ some b -> w'.heap[b]? = w.heap[b]? := fun b hb hne => hg.block b hb (fun e => hne e.symm)
 have hq : ∀ b, Q b -> w'.heap[b]? = w.heap[b]? := fun b hqb => hb b (h.far b hqb).1 fun e => (h.far b hqb).2.2 (.inr (.inr (.inr e)))
 refine ⟨owns_same h.pl fun b e => hb b (h.pl.lt b e).2 (h.s3 b e), owns_same h.st fun b e => hb b (h.st.lt b e).2 (h.s5 b e), owns_same h.ca fun b e => hb b (h.ca.lt b e).2 (h.s6 b e), ho, h.inp.same hq,
  fun j x hj => by rw [World.cell?_of_block (w := w) (hq wb h.qw)]; exact h.wds j x hj, h.s1, h.s2, apart_new h.s3 hn fun k e => (h.pl.lt k e).2, h.s4, apart_new h.s5 hn fun k e => (h.st.lt k e).2, apart_new h.s6 hn fun k e => (h.ca.lt k e).2, h.qw,
  fun b hqb => ⟨Nat.lt_of_lt_of_le (h.far b hqb).1 hg.size, (h.far b hqb).2.1, ?_⟩, ?_, Nat.lt_of_lt_of_le h.xlt hg.size, h.rp, h.rs, h.ri, h.c30, hr⟩
 ·rintro (e | e | e | e)
  ·exact (h.far b hqb).2.2 (.inl e)
  ·exact (h.far b hqb).2.2 (.inr (.inl e))
  ·exact (h.far b hqb).2.2 (.inr (.inr (.inl e)))
  ·exact new_not hn (h.far b hqb).1 (fun e2 => (h.far b hqb).2.2 (.inr (.inr (.inr e2)))) e
 ·rintro (e | e | e | e)
  ·exact h.xr (.inl e)
  ·exact h.xr (.inr (.inl e))
  ·exact h.xr (.inr (.inr (.inl e)))
  ·exact new_not hn h.xlt (fun e2 => h.xr (.inr (.inr (.inr e2)))) e
theorem MM.setX (xb o : Nat) (v : Value) (R : MR) (w : World) : MM xb R R w (w.setCell ⟨xb, o, none⟩ v) :=
 ⟨⟨rfl, rfl, rfl, by simp [World.setCell], fun b hb hn => Below.heap_setCell _ _ _ _ (fun e => hn (.inl e))⟩, fun _ h => .inl h⟩
theorem MM.grown {R' : MR} {row : Option Nat} (hg : w.grownBy w' row) (hr : ∀ b, row = some b -> R.has b) (hn : ∀ k, R'.has k -> R.has k ∨ w.heap.size <= k) : MM xb R R' w w' :=
 ⟨⟨hg.os, hg.tape, hg.output, hg.size, fun b hb hn2 => hg.block b hb fun e => hn2 (.inr (hr b e.symm))⟩, hn⟩
theorem owns_take {base : Nat} {e : TypeId} {size g cap n : Nat} {xs : List Value} (h : w.ownsRow base e size (.slice (some ⟨g, 0, none⟩) n cap) n xs) {k : Nat} (hk : k <= n) : w.ownsRow base e size (.slice (some ⟨g, 0, none⟩) k cap) k (xs.take (k * size)) := by
 obtain ⟨h1, h2⟩ := h
 have hm : k * size <= n * size := Nat.mul_le_mul_right _ hk
 rcases h2 with ⟨h0, _⟩ | ⟨g', cap', cur, hv, hg, hh, hn, hcap, hsz, htake⟩
 ·cases h0
 ·cases hv
  refine ⟨by rw [List.length_take]; omega, .inr ⟨g, cap, cur, rfl, hg, hh, by omega, hcap, hsz, ?_⟩⟩
  rw [<- htake, List.take_take, Nat.min_eq_left hm]
theorem i32_wrap (x : Int) : IntKind.i32.wrap x = wrapV x := by
 have e1 : IntKind.i32.bits = 32 := rfl
 have e2 : IntKind.i32.signed = true := rfl
 have e3 : (2 : Int) ^ 32 = 4294967296 := by decide
 have e4 : (2 : Int) ^ (32 - 1) = 2147483648 := by decide
 unfold IntKind.wrap wrapV Int.bmod
 simp only [e1, e2, e3, e4]
 have e5 : ((4294967296 : Nat) : Int) = 4294967296 := rfl
 rw [e5]
 by_cases h : 2147483648 <= x % 4294967296
 ·rw [if_pos (by simp [h]), if_neg (by omega)]
 ·rw [if_neg (by simp; omega), if_pos (by omega)]
end
theorem Tryz.infoI32 : (Tryz.prog.info? 21).map (fun i => (i.zero, i.size, i.bytes)) = some (some (.int .i32 0), 1, 4) := by kernel_rfl
section
variable {xb wb wc fuel limit : Nat} {W : List Nat} {Q : Nat -> Prop} {w w' : World} {m : MS} {waits : Bool} {R : MR} {vi : Value}
def MPo (xb wb wc : Nat) (W : List Nat) (Q : Nat -> Prop) (fuel limit : Nat) (waits : Bool) (R : MR) (w : World) (r : Value) (m' : MS) (vi : Value) (e : Ending) (w' : World) : Prop :=
 e = .returned r /\ ∃ R', MC xb wb wc W Q w' m' fuel limit waits R' vi /\ MM xb R R' w w'
theorem MC.setX (h : MC xb wb wc W Q w m fuel limit waits R vi) {o : Nat} {v : Value} {m' : MS} {fuel' limit' : Nat} {waits' : Bool} (ho : o < 14) (he : mcCells wb wc W m' fuel' limit' waits' R vi = (mcCells wb wc W m fuel limit waits R vi).set o v)
  (hr : m'.places = m.places /\ m'.stack = m.stack /\ m'.calls = m.calls /\ m'.out = m.out /\ m'.input = m.input) :
  MC xb wb wc W Q (w.setCell ⟨xb, o, none⟩ v) m' fuel' limit' waits' R vi /\ MM xb R R w (w.setCell ⟨xb, o, none⟩ v) := by
 refine ⟨⟨?_, fun k => by rw [World.frozen?_setCell]; exact h.frz k, ?_⟩, MM.setX _ _ _ _ _⟩
 ·rw [he]; exact h.cel.set (by simpa [mcCells] using ho) v
 ·rw [hr.1, hr.2.1, hr.2.2.1, hr.2.2.2.1, hr.2.2.2.2]; exact h.rows.setX o v
theorem MC.setPc (h : MC xb wb wc W Q w m fuel limit waits R vi) (p : Nat) : MC xb wb wc W Q (w.setCell ⟨xb, 1, none⟩ (.int .i64 (p : Nat))) { m with pc := p } fuel limit waits R vi /\ MM xb R R w (w.setCell ⟨xb, 1, none⟩ (.int .i64 (p : Nat))) :=
 h.setX (by omega) rfl ⟨rfl, rfl, rfl, rfl, rfl⟩
theorem MC.setBase (h : MC xb wb wc W Q w m fuel limit waits R vi) (p : Nat) : MC xb wb wc W Q (w.setCell ⟨xb, 4, none⟩ (.int .i64 (p : Nat))) { m with base := p } fuel limit waits R vi /\ MM xb R R w (w.setCell ⟨xb, 4, none⟩ (.int .i64 (p : Nat))) :=
 h.setX (by omega) rfl ⟨rfl, rfl, rfl, rfl, rfl⟩
theorem MC.setUsed (h : MC xb wb wc W Q w m fuel limit waits R vi) (p : Nat) : MC xb wb wc W Q (w.setCell ⟨xb, 11, none⟩ (.int .i64 (p : Nat))) { m with used := p } fuel limit waits R vi /\ MM xb R R w (w.setCell ⟨xb, 11, none⟩ (.int .i64 (p : Nat))) :=
 h.setX (by omega) rfl ⟨rfl, rfl, rfl, rfl, rfl⟩
theorem MC.setWaits (h : MC xb wb wc W Q w m fuel limit waits R vi) (b : Bool) : MC xb wb wc W Q (w.setCell ⟨xb, 13, none⟩ (.bool b)) m fuel limit b R vi /\ MM xb R R w (w.setCell ⟨xb, 13, none⟩ (.bool b)) :=
 h.setX (by omega) rfl ⟨rfl, rfl, rfl, rfl, rfl⟩
theorem MC.setLimit (h : MC xb wb wc W Q w m fuel limit waits R vi) (p : Nat) : MC xb wb wc W Q (w.setCell ⟨xb, 8, none⟩ (.int .i64 (p : Nat))) m fuel p waits R vi /\ MM xb R R w (w.setCell ⟨xb, 8, none⟩ (.int .i64 (p : Nat))) :=
 h.setX (by omega) rfl ⟨rfl, rfl, rfl, rfl, rfl⟩
theorem MC.setEnd (h : MC xb wb wc W Q w m fuel limit waits R vi) (c : Nat) : MC xb wb wc W Q ((w.setCell ⟨xb, 9, none⟩ (.int .i64 (c : Nat))).setCell ⟨xb, 12, none⟩ (.bool true)) (m.end_ c) fuel limit waits R vi /\ MM xb R R w ((w.setCell ⟨xb, 9, none⟩ (.int .i64 (c : Nat))).setCell ⟨xb, 12, none⟩ (.bool true)) := by
 refine ⟨⟨?_, fun k => by rw [World.frozen?_setCell, World.frozen?_setCell]; exact h.frz k, (h.rows.setX 9 _).setX 12 _⟩, (MM.setX _ _ _ _ _).trans (MM.setX _ _ _ _ _)⟩
 have h1 := h.cel.set (o := 9) (by simp [mcCells]) (.int .i64 (c : Nat))
 have h2 := h1.set (o := 12) (by simp [mcCells]) (.bool true)
 exact h2
theorem MC.pcAt (h : MC xb wb wc W Q w m fuel limit waits R vi) : w.cell? ⟨xb, 1, none⟩ = some (.int .i64 (m.pc : Nat)) := h.cel 1 _ rfl
theorem MC.plAt (h : MC xb wb wc W Q w m fuel limit waits R vi) : w.cell? ⟨xb, 2, none⟩ = some R.pl := h.cel 2 _ rfl
theorem MC.stAt (h : MC xb wb wc W Q w m fuel limit waits R vi) : w.cell? ⟨xb, 3, none⟩ = some R.st := h.cel 3 _ rfl
theorem MC.baAt (h : MC xb wb wc W Q w m fuel limit waits R vi) : w.cell? ⟨xb, 4, none⟩ = some (.int .i64 (m.base : Nat)) := h.cel 4 _ rfl
theorem MC.caAt (h : MC xb wb wc W Q w m fuel limit waits R vi) : w.cell? ⟨xb, 5, none⟩ = some R.ca := h.cel 5 _ rfl
theorem MC.inAt (h : MC xb wb wc W Q w m fuel limit waits R vi) : w.cell? ⟨xb, 6, none⟩ = some vi := h.cel 6 _ rfl
theorem MC.fuAt (h : MC xb wb wc W Q w m fuel limit waits R vi) : w.cell? ⟨xb, 7, none⟩ = some (.int .i64 (fuel : Nat)) := h.cel 7 _ rfl
theorem MC.liAt (h : MC xb wb wc W Q w m fuel limit waits R vi) : w.cell? ⟨xb, 8, none⟩ = some (.int .i64 (limit : Nat)) := h.cel 8 _ rfl
theorem MC.coAt (h : MC xb wb wc W Q w m fuel limit waits R vi) : w.cell? ⟨xb, 9, none⟩ = some (.int .i64 ((m.over.getD 0 : Nat) : Int)) := h.cel 9 _ rfl
theorem MC.ouAt (h : MC xb wb wc W Q w m fuel limit waits R vi) : w.cell? ⟨xb, 10, none⟩ = some R.ou := h.cel 10 _ rfl
theorem MC.usAt (h : MC xb wb wc W Q w m fuel limit waits R vi) : w.cell? ⟨xb, 11, none⟩ = some (.int .i64 (m.used : Nat)) := h.cel 11 _ rfl
theorem MC.ovAt (h : MC xb wb wc W Q w m fuel limit waits R vi) : w.cell? ⟨xb, 12, none⟩ = some (.bool m.over.isSome) := h.cel 12 _ rfl
theorem MC.waAt (h : MC xb wb wc W Q w m fuel limit waits R vi) : w.cell? ⟨xb, 13, none⟩ = some (.bool waits) := h.cel 13 _ rfl
theorem MC.wdAt (h : MC xb wb wc W Q w m fuel limit waits R vi) : w.cell? ⟨xb, 0, none⟩ = some (.slice (some ⟨wb, 0, none⟩) W.length wc) := h.cel 0 _ rfl
theorem mend_any (h : MC xb wb wc W Q w m fuel limit waits R vi) (c : Nat) :
  Calls Tryz.prog 103 #[.pointer (some ⟨xb, 0, none⟩), .int .i64 (c : Nat)] w (MPo xb wb wc W Q fuel limit waits R w (.tuple #[]) (m.end_ c) vi) := by
 have hc9 := h.coAt
 have hc12 := h.ovAt
 have hz9 := h.frz 9
 have hz12 := h.frz 12
 go_enter Tryz.func103, Tryz.ntmps103
 go_wp2
 go_end0
 exact ⟨rfl, R, (h.setEnd c).1, (h.setEnd c).2⟩
theorem wait_any (h : MC xb wb wc W Q w m fuel limit waits R vi) (hp : 0 < m.pc) (hb : m.pc <= 1000000) :
  Calls Tryz.prog 133 #[.pointer (some ⟨xb, 0, none⟩)] w (MPo xb wb wc W Q fuel limit true R w (.tuple #[]) { m with pc := m.pc - 1 } vi) := by
 have hc1 := h.pcAt
 have hz1 := h.frz 1
 have hz13 := h.frz 13
 have hc13 := h.waAt
 obtain ⟨p, hpe⟩ : ∃ p, m.pc = p + 1 := ⟨m.pc - 1, by omega⟩
 have HS := h.setPc p
 have HT := HS.1.setWaits true
 have e : { m with pc := m.pc - 1 } = { m with pc := p } := by rw [hpe]; rfl
 rw [e]
 rw [hpe] at hc1
 have HU : Hid _ := HT
 have HV : Hid _ := HS
 clear HS HT
 go_enter Tryz.func133, Tryz.ntmps133
 go_wp2
 go_end0
 exact ⟨rfl, R, HU.out.1, HV.out.2.trans HU.out.2⟩
end
theorem zeroCells_one (z : Value) (k : Nat) : Builtin.zeroCells #[z] k = (List.replicate k z).toArray := by
 apply Array.ext
 ·simp [Builtin.zeroCells]
 ·intro j h1 h2
  simp [Builtin.zeroCells, Nat.mod_one]
theorem run_append_zeros_own {P : Program} (w : World) (t tn ty e : TypeId) (i : TypeInfo) (z : Value) (kq kn : IntKind) (bytes : Nat) (ht : P.underlying t = some (.slice e)) (htn : P.underlying tn = some (.int kn)) (hi : P.info? e = some i) (hz : i.zero = some z)
  (hsize : i.size = 1) (hby : i.bytes = bytes) (hzc : z.cells = #[z]) (hz1 : z.oneCell' = true) (v : Value) (n : Nat) (xs : List Value) (hown : w.ownsRow 0 e 1 v n xs) (k : Nat) (h63 : n + k <= maxLen) (hbytes : (n + k) * bytes <= 140737488355328) :
  ∃ v' w', (Builtin.append_ #[t, tn] ty #[v, .int kq k]).run P w = .ok v' w' /\ w'.ownsRow 0 e 1 v' (n + k) (xs ++ List.replicate k z) /\ w.grownBy w' v.ownBlock /\ NewRow w v v' := by
 have hsmall : n + k <= 9223372036854775807 := by simp only [maxLen] at h63; omega
 have hw : IntKind.i64.wrap (k : Int) = k := by rw [IntKind.wrap_i64]; omega
 have hneg : ¬ ((k : Int) < 0) := by omega
 have hkb : k * bytes <= 140737488355328 := Nat.le_trans (Nat.mul_le_mul_right _ (by omega)) hbytes
 have h48i : ¬ (281474976710656 < (k : Int) * (i.bytes : Int)) := by
  rw [<- Int.natCast_mul, hby]
  omega
 have hlen : (xs ++ List.replicate k z).length = (n + k) * 1 := by rw [List.length_append, hown.1, List.length_replicate]; omega
 have grown : ∀ (old : Nat), ∀ (row : Option Nat),
   (w.drew.alloc (.cells (xs.toArray ++ Builtin.zeroCells z.cells k ++ Builtin.zeroCells z.cells (grownCap w (n + k) old e - (n + k))) e)).ownsRow 0 e 1
     (.slice (some ⟨w.heap.size, 0, none⟩) (n + k) (grownCap w (n + k) old e)) (n + k) (xs ++ List.replicate k z) /\
   w.grownBy (w.drew.alloc (.cells (xs.toArray ++ Builtin.zeroCells z.cells k ++ Builtin.zeroCells z.cells (grownCap w (n + k) old e - (n + k))) e)) row := by
  intro old row
  have hge := grownCap_ge w (n + k) old e
  have hcm : grownCap w (n + k) old e <= maxLen := grownCap_le_maxLen w (n + k) old e h63
  rw [hzc, zeroCells_one, zeroCells_one]
  refine ⟨⟨hlen, .inr ⟨w.heap.size, _, _, rfl, Nat.zero_le _, heap_alloc_new w.drew _, hge, hcm, ?_, ?_⟩⟩, ⟨rfl, rfl, rfl, by simp, fun _ hk _ => heap_alloc_old w.drew _ hk⟩⟩
  ·have := hown.1
   simp only [Array.size_append, List.size_toArray, List.length_replicate]
   omega
  ·simp only [Array.toList_append]
   rw [<- hlen]
   exact List.take_left
 by_cases hk : k = 0
 ·subst hk
  have hw0 : IntKind.i64.wrap 0 = 0 := hw
  refine ⟨v, w, ?_, by simpa using hown, ⟨rfl, rfl, rfl, Nat.le_refl _, fun _ _ _ => rfl⟩, .inl rfl⟩
  rcases hown.2 with ⟨rfl, rfl⟩ | ⟨g, cap, cur, rfl, hbg, hg, hnc, hcm, hcs, htake⟩
  ·simp [Builtin.append_, run_underlying ht, run_underlying htn, sizeOf, typeInfo, hi, asInt, asIntOf, hw0]
  ·simp [Builtin.append_, run_underlying ht, run_underlying htn, sizeOf, typeInfo, hi, asInt, asIntOf, hw0, hnc, storeCells]
 ·rcases hown.2 with ⟨rfl, rfl⟩ | ⟨g, cap, cur, rfl, hbg, hg, hnc, hcm, hcs, htake⟩
  ·have hx : xs = [] := List.eq_nil_of_length_eq_zero (by simpa using hown.1)
   subst hx
   have hr := Lib.run_append_nil_zeros (P := P) w t tn ty e i z kq kn ht htn hi hz k (by omega) (by omega) (by omega) (by rw [hby]; omega)
   have hgr := grown 0 (Value.ownBlock (.slice none 0 0))
   simp only [Nat.zero_add, List.nil_append, Array.empty_append] at hgr ⊢
   refine ⟨_, _, hr, hgr.1, hgr.2, .inr fun q hq => ?_⟩
   have : w.heap.size = q := by simpa [Value.ownBlock] using hq
   omega
  ·by_cases hroom : n + k <= cap
   ·rw [Nat.mul_one] at htake
    have hfit : n + (List.replicate k z).length <= cur.size := by rw [List.length_replicate, hcs]; omega
    have hst := run_storeCells_at P g n e (List.replicate k z) 0 cur w hg (by simpa using hfit) (fun u hu => by rw [List.eq_of_mem_replicate hu]; exact hz1)
    simp only [Nat.add_zero] at hst
    refine ⟨.slice (some ⟨g, 0, none⟩) (n + k) cap, w.setRow g (cur.toList.take n ++ List.replicate k z ++ cur.toList.drop (n + (List.replicate k z).length)).toArray, ?_, ⟨hlen, .inr ⟨g, cap, _, rfl, hbg, setRow_heap w g cur (cur.toList.take n ++ List.replicate k z ++ cur.toList.drop (n + (List.replicate k z).length)).toArray e _ hg, hroom, hcm, ?_, ?_⟩⟩, ⟨rfl, rfl, rfl, by simp, fun q _ hq => setRow_other w g q _ (fun e => hq (by simp [Value.ownBlock, e]))⟩, .inl rfl⟩
    ·simp [Builtin.append_, run_underlying ht, run_underlying htn, sizeOf, typeInfo, zeroValue, hi, hz, asInt, asIntOf, hw, hneg, h48i, hroom, Addr.add_lit, hsize, hzc, zeroCells_one, hk]
     rw [hst]
     simp
    ·simp only [List.size_toArray, List.length_append, List.length_take, List.length_drop, Array.length_toList]
     omega
    ·rw [htake, <- hlen]
     exact List.take_left
   ·have holds : ∀ j u, xs[j]? = some u -> w.drew.cell? ((⟨g, 0, none⟩ : Addr).add j) = some u := hown.cells (g := g) rfl
    have hold := run_firstCells_some (P := P) w.drew i.size n ⟨g, 0, none⟩ n cap xs (by rw [hsize]; exact hown.1) holds
    have hfit := growslice_fits (old := cap) (need := n + k) (bytes := bytes) (by omega) hbytes
    have hr := Lib.run_append_grow_zeros (P := P) w t tn ty e i z kq kn ht htn hi hz (some ⟨g, 0, none⟩) n cap xs hold k (by omega) (by omega) (by omega) (by omega) (by rw [hby]; omega) (by rw [hby]; exact hfit)
    have hgr := grown cap (Value.ownBlock (.slice (some ⟨g, 0, none⟩) n cap))
    refine ⟨_, _, hr, hgr.1, hgr.2, .inr fun q hq => ?_⟩
    have : w.heap.size = q := by simpa [Value.ownBlock] using hq
    omega
end Go.Proofs.YtklobognaldjpaaGreat
