/- The machine: whatever step. The machine: a turn. The machine: a new one. A list of numbers in memory. Plain: which of some things a raw number speaks of. The program: the values of an input. -/
import Derived.Test.YtklobognaldjpaaGreatCMs1
import Derived.Test.YtklobognaldjpaaGreatCMs8
import Derived.Test.YtklobognaldjpaaGreatCBw1
import Derived.Deep.LoopGhost
import Derived.Test.YtklobognaldjpaaGreatCScan5
import Derived.Test.YtklobognaldjpaaGreatCPure5
import Derived.Test.YtklobognaldjpaaGreatCMc5
import Derived.Deep.AppendLies
import Derived.Laws.OwnMore
import Derived.Deep.CutBlock
import Derived.Deep.DeepCutAuto
set_option maxRecDepth 1000000
set_option maxHeartbeats 4000000
namespace Go.Proofs.YtklobognaldjpaaGreat
open Go.RowKit
section
variable {xb wb wc fuel limit : Nat} {W : List Nat} {Q : Nat -> Prop} {w w' w1 : World} {m : MS} {waits : Bool} {R : MR} {vi : Value}
theorem step_any (h : MC xb wb wc W Q w m fuel limit waits R vi) (hW : W.length <= 1000000) (hK : LeK W) (hb : m.stack.length <= 1000000) {m1 : MS} (hs : stepM W fuel m = some m1) (hb1 : m1.stack.length <= 1000000) (hub : m.used <= 1000000) (hwait : W[m.pc]? = some 1 -> m.used ≠ fuel -> m.used ≠ limit) :
  Calls Tryz.prog 73 #[.pointer (some ⟨xb, 0, none⟩)] w (StPo xb wb wc W Q fuel limit waits R w m1) := by
 unfold stepM at hs
 split at hs
 ·cases hs
 ·rename_i hop
  cases hs; exact step_end h hW hop
 ·rename_i hop
  cases hs
  by_cases hu : m.used = fuel
  ·rw [if_pos hu]; exact step_unit_end h hW hop hu
  ·rw [if_neg hu]; exact step_unit_go h hW hop hu (hwait hop hu) hub
 ·rename_i hop
  obtain ⟨v, hv, rfl⟩ := Option.map_eq_some_iff.1 hs
  exact step_push' h hW hb hop hv
 ·rename_i hop
  obtain ⟨a, ha, hs⟩ := Option.bind_eq_some_iff.1 hs
  obtain ⟨v, hv, rfl⟩ := Option.map_eq_some_iff.1 hs
  exact step_get h hW hb hop ha hv
 ·rename_i hop
  obtain ⟨a, ha, hs⟩ := Option.bind_eq_some_iff.1 hs
  obtain ⟨x, hx, hs⟩ := Option.bind_eq_some_iff.1 hs
  split at hs
  ·rename_i hal
   cases hs; exact step_set h hW hb hop ha hx hal
  ·cases hs
 ·rename_i hop
  obtain ⟨a, ha, hs⟩ := Option.bind_eq_some_iff.1 hs
  obtain ⟨v, hv, rfl⟩ := Option.map_eq_some_iff.1 hs
  exact step_getl h hW hb hop ha hv
 ·rename_i hop
  obtain ⟨a, ha, hs⟩ := Option.bind_eq_some_iff.1 hs
  obtain ⟨x, hx, hs⟩ := Option.bind_eq_some_iff.1 hs
  split at hs
  ·rename_i hal
   cases hs; exact step_setl h hW hb hop ha hx hal
  ·cases hs
 ·rename_i hop
  obtain ⟨a, ha, hs⟩ := Option.bind_eq_some_iff.1 hs
  obtain ⟨n, hn, hs⟩ := Option.bind_eq_some_iff.1 hs
  obtain ⟨x, hx, rfl⟩ := Option.map_eq_some_iff.1 hs
  exact step_find2 h hW hb hop ha hn (hK a (List.mem_of_getElem? ha)) hx
 ·rename_i hop
  obtain ⟨x, hx, hs⟩ := Option.bind_eq_some_iff.1 hs
  split at hs
  ·rename_i h0
   obtain ⟨v, hv, rfl⟩ := Option.map_eq_some_iff.1 hs
   obtain ⟨k, rfl⟩ : ∃ k : Nat, x = k := ⟨x.toNat, by omega⟩
   exact step_getat h hW hb hop hx (by simpa using hv)
  ·cases hs
 ·rename_i hop
  obtain ⟨v, hv, hs⟩ := Option.bind_eq_some_iff.1 hs
  obtain ⟨x, hx, hs⟩ := Option.bind_eq_some_iff.1 hs
  split at hs
  ·rename_i h0
   cases hs
   obtain ⟨k, rfl⟩ : ∃ k : Nat, x = k := ⟨x.toNat, by omega⟩
   exact step_setat h hW hb hop hv hx (by omega)
  ·cases hs
 ·rename_i hop
  obtain ⟨v, hv, rfl⟩ := Option.map_eq_some_iff.1 hs
  exact step_op_19 h hW hb hop hv
 ·rename_i hop
  obtain ⟨v, hv, rfl⟩ := Option.map_eq_some_iff.1 hs
  exact step_op_20 h hW hb hop hv
 ·rename_i hop
  obtain ⟨v, hv, rfl⟩ := Option.map_eq_some_iff.1 hs
  exact step_op_21 h hW hb hop hv
 ·rename_i hop
  obtain ⟨a, ha, rfl⟩ := Option.map_eq_some_iff.1 hs
  exact step_jump2 h hW hop ha
 ·rename_i hop
  obtain ⟨a, ha, hs⟩ := Option.bind_eq_some_iff.1 hs
  obtain ⟨x, hx, rfl⟩ := Option.map_eq_some_iff.1 hs
  exact step_unless2 h hW hb hop ha hx
 ·rename_i hop
  obtain ⟨a, ha, hs⟩ := Option.bind_eq_some_iff.1 hs
  obtain ⟨n, hn, hs⟩ := Option.bind_eq_some_iff.1 hs
  split at hs
  ·rename_i h30
   cases hs; exact step_call_end h hW hop ha hn h30
  ·rename_i h30
   split at hs
   ·rename_i hns
    cases hs; exact step_call_go h hW hb hop ha hn h30 hns
   ·cases hs
 ·rename_i hop
  obtain ⟨n, hn, rfl⟩ := Option.map_eq_some_iff.1 hs
  exact step_enter h hW hop hn (by simpa using hb1)
 ·rename_i hop
  obtain ⟨f, hf, hs⟩ := Option.bind_eq_some_iff.1 hs
  split at hs
  ·rename_i hbs
   cases hs; exact step_leave2 h hW hb hop hf hbs
  ·cases hs
 ·rename_i hop
  obtain ⟨a, ha, hs⟩ := Option.bind_eq_some_iff.1 hs
  obtain ⟨v, hv, hs⟩ := Option.bind_eq_some_iff.1 hs
  obtain ⟨f, hf, hs⟩ := Option.bind_eq_some_iff.1 hs
  split at hs
  ·cases hs; exact step_leavewith h hW hb hop ha hv hf
  ·cases hs
 ·rename_i hop
  obtain ⟨x, hx, rfl⟩ := Option.map_eq_some_iff.1 hs
  by_cases h60 : m.out.length = 60
  ·rw [if_pos h60]; exact step_write_end h hW hb hop hx h60
  ·rw [if_neg h60]; exact step_write_go h hW hb hop hx h60
 ·rename_i hop
  cases hs
  cases hi : m.input with
  | nil =>
   have t := step_read_end h hW hop hi
   rw [hi] at t
   exact t
  | cons x r => exact step_read_go h hW hb hop hi
 ·rename_i op _ _ _ _ _ _ _ _ _ _ _ _ _ _ _ _ _ _ _ _ _ hop
  split at hs
  ·rename_i h12
   obtain ⟨y, hy, hs⟩ := Option.bind_eq_some_iff.1 hs
   obtain ⟨x, hx, rfl⟩ := Option.map_eq_some_iff.1 hs
   have := step_op_two h hW hb hop h12.1 h12.2 hy hx
   unfold joinM at this
   cases hj : joinV op x y with
   | some v => rw [hj] at this; exact this
   | none => rw [hj] at this; exact this
  ·cases hs
end
inductive Trn (W : List Nat) (fuel limit : Nat) : Nat -> MS -> MS -> Bool -> Prop
 | over (m : MS) : m.over.isSome = true -> Trn W fuel limit 0 m m false
 | wait (m : MS) : m.over = none -> W[m.pc]? = some 1 -> m.used ≠ fuel -> m.used = limit -> Trn W fuel limit 1 m m true
 | step {n : Nat} {m m1 m2 : MS} {b : Bool} : m.over = none -> (W[m.pc]? = some 1 -> m.used ≠ fuel -> m.used ≠ limit) -> m.stack.length <= 1000000 -> m1.stack.length <= 1000000 -> m.used <= 1000000 -> stepM W fuel m = some m1 -> Trn W fuel limit n m1 m2 b -> Trn W fuel limit (n + 1) m m2 b
section
variable {xb wb wc fuel limit : Nat} {W : List Nat} {Q : Nat -> Prop} {w w' w1 : World} {m m' : MS} {waits : Bool} {R R' : MR} {vi : Value}
theorem MM.keeps {k : Nat} (h : MM xb R R' w w') (hk : k < w.heap.size) (hx : k ≠ xb) (hr : ¬ R.has k) : w'.heap[k]? = w.heap[k]? /\ ¬ R'.has k /\ k < w'.heap.size :=
 ⟨h.1.block k hk (by rintro (e | e); exact hx e; exact hr e), fun e => (h.2 k e).elim hr (fun h2 => by omega), Nat.lt_of_lt_of_le hk h.1.size⟩
theorem MC.foreign (h : MC xb wb wc W Q w m fuel limit waits R vi) {k : Nat} (hx : k ≠ xb) (hr : ¬ R.has k) (hq : ¬ Q k) (o : Nat) (v : Value) : MC xb wb wc W Q (w.setCell ⟨k, o, none⟩ v) m fuel limit waits R vi := by
 have hb : ∀ b, b ≠ k -> (w.setCell ⟨k, o, none⟩ v).heap[b]? = w.heap[b]? := fun b hb => Below.heap_setCell _ _ _ _ hb
 exact ⟨h.cel.block (hb xb (Ne.symm hx)), fun o2 => by rw [World.frozen?_setCell]; exact h.frz o2, h.rows.same (by simp [World.setCell]) fun b hb2 => hb b (by
  rintro rfl
  rcases hb2 with h1 | h1
  ·exact hq h1
  ·exact hr h1)⟩
theorem MM.past (h : MM xb R R' w w') {k : Nat} (hk : w.heap.size <= k) (o : Nat) (v : Value) : MM xb R R' w (w'.setCell ⟨k, o, none⟩ v) :=
 ⟨⟨h.1.os, h.1.tape, h.1.output, Nat.le_trans h.1.size (by simp [World.setCell]), fun b hb hn => by rw [Below.heap_setCell _ _ _ _ (show b ≠ k by omega)]; exact h.1.block b hb hn⟩, h.2⟩
def GnPo (xb wb wc : Nat) (W : List Nat) (Q : Nat -> Prop) (fuel limit : Nat) (b : Bool) (R : MR) (w : World) (m' : MS) (e : Ending) (w' : World) : Prop :=
 ∃ R' vi' oa oc, R'.ou = .slice oa m'.out.length oc /\ e = .returned (.tuple #[.agg #[.int .i64 ((m'.over.getD 0 : Nat) : Int), .slice oa m'.out.length oc, .int .i64 (m'.used : Nat)], .bool m'.over.isSome]) /\ MC xb wb wc W Q w' m' fuel limit b R' vi' /\ MM xb R R' w w'
theorem gn_post {b : Bool} {rb : Nat} {oa : Option Addr} {oc : Nat} {wr : World} {vj : Value} (hM : MC xb wb wc W Q wr m' fuel limit b R' vj) (hk : MM xb R R' w wr) (hrb : w.heap.size <= rb) (hx : rb ≠ xb) (hr : ¬ R'.has rb) (hq : ¬ Q rb) (ho : R'.ou = .slice oa m'.out.length oc) {x y z : Value} :
  GnPo xb wb wc W Q fuel limit b R w m' (.returned (.tuple #[.agg #[.int .i64 ((m'.over.getD 0 : Nat) : Int), .slice oa m'.out.length oc, .int .i64 (m'.used : Nat)], .bool m'.over.isSome])) (((wr.drew.setCell ⟨rb, 0, none⟩ x).setCell ⟨rb, 1, none⟩ y).setCell ⟨rb, 2, none⟩ z) :=
 ⟨R', vj, oa, oc, ho, rfl, (((hM.below (Below.refl _ _).drew).foreign hx hr hq 0 x).foreign hx hr hq 1 y).foreign hx hr hq 2 z, (((hk.trans (MM.of_below (Below.refl _ _).drew)).past hrb 0 x).past hrb 1 y).past hrb 2 z⟩
theorem goOn_any (h : MC xb wb wc W Q w m fuel limit waits R vi) (hW : W.length <= 1000000) (hK : LeK W) {units n : Nat} {b : Bool} (hT : Trn W fuel (m.used + units) n m m' b) (hub : m.used + units <= 1000000) :
  Calls Tryz.prog 49 #[.pointer (some ⟨xb, 0, none⟩), .int .i64 (units : Nat)] w (GnPo xb wb wc W Q fuel (m.used + units) b R w m') := by
 have hu := h.usAt
 have hli := h.liAt
 have hwa := h.waAt
 have hz8 := h.frz 8
 have hz13 := h.frz 13
 have t1 := h.setLimit (m.used + units)
 have t2 := t1.1.setWaits false
 have hxl := h.rows.xlt
 have hRl := h.rows.lt
 have hsz : ((w.setCell ⟨xb, 8, none⟩ (.int .i64 ((m.used + units : Nat) : Int))).setCell ⟨xb, 13, none⟩ (.bool false)).heap.size = w.heap.size := by simp [World.setCell]
 have t3 := t2.1.below ((Below.refl _ _).alloc (Nat.le_refl _) (.cells #[.int .i64 0, .slice none 0 0, .int .i64 0] 39))
 have tk : MM xb R R w ((((w.setCell ⟨xb, 8, none⟩ (.int .i64 ((m.used + units : Nat) : Int))).setCell ⟨xb, 13, none⟩ (.bool false))).alloc (.cells #[.int .i64 0, .slice none 0 0, .int .i64 0] 39)) := (t1.2.trans t2.2).trans (MM.of_below ((Below.refl _ _).alloc (Nat.le_refl _) _))
 have hq0 : ∀ o, ((((w.setCell ⟨xb, 8, none⟩ (.int .i64 ((m.used + units : Nat) : Int))).setCell ⟨xb, 13, none⟩ (.bool false))).alloc (.cells #[.int .i64 0, .slice none 0 0, .int .i64 0] 39)).cell? ⟨w.heap.size, o, none⟩ = #[Value.int .i64 0, .slice none 0 0, .int .i64 0][o]? := fun o => by
  have := World.cell?_alloc_new ((w.setCell ⟨xb, 8, none⟩ (.int .i64 ((m.used + units : Nat) : Int))).setCell ⟨xb, 13, none⟩ (.bool false)) #[Value.int .i64 0, .slice none 0 0, .int .i64 0] 39 o
  rw [hsz] at this; exact this
 have hf0 : ∀ o, ((((w.setCell ⟨xb, 8, none⟩ (.int .i64 ((m.used + units : Nat) : Int))).setCell ⟨xb, 13, none⟩ (.bool false))).alloc (.cells #[.int .i64 0, .slice none 0 0, .int .i64 0] 39)).frozen? ⟨w.heap.size, o, none⟩ = false := fun o => by
  have := World.frozen?_alloc_new ((w.setCell ⟨xb, 8, none⟩ (.int .i64 ((m.used + units : Nat) : Int))).setCell ⟨xb, 13, none⟩ (.bool false)) #[Value.int .i64 0, .slice none 0 0, .int .i64 0] 39 o
  rw [hsz] at this; exact this
 have hwz : w.heap.size < ((((w.setCell ⟨xb, 8, none⟩ (.int .i64 ((m.used + units : Nat) : Int))).setCell ⟨xb, 13, none⟩ (.bool false))).alloc (.cells #[.int .i64 0, .slice none 0 0, .int .i64 0] 39)).heap.size := by simp [World.setCell]
 rw [show ((m.used + units : Nat) : Int) = (m.used : Int) + (units : Int) by omega] at t3 tk hq0 hf0 hwz
 generalize hw0 : ((((w.setCell ⟨xb, 8, none⟩ (.int .i64 ((m.used : Int) + (units : Int)))).setCell ⟨xb, 13, none⟩ (.bool false))).alloc (.cells #[.int .i64 0, .slice none 0 0, .int .i64 0] 39)) = w0 at t3 tk hq0 hf0 hwz
 have HW0 : Hid (((((w.setCell ⟨xb, 8, none⟩ (.int .i64 ((m.used : Int) + (units : Int)))).setCell ⟨xb, 13, none⟩ (.bool false))).alloc (.cells #[.int .i64 0, .slice none 0 0, .int .i64 0] 39)) = w0) := hw0
 have hnq : ¬ Q w.heap.size := fun e => by have := (h.rows.far _ e).1; omega
 have hnr : ¬ R.has w.heap.size := fun e => by have := hRl _ e; omega
 have HT : Hid (Trn W fuel (m.used + units) n m m' b) := hT
 have HM : Hid (MC xb wb wc W Q w0 m fuel (m.used + units) false R vi) := t3
 have HK : Hid (MM xb R R w w0) := tk
 have HKP : Hid (∀ {wr : World} {R' : MR}, MM xb R R' w0 wr -> (∀ o, wr.cell? ⟨w.heap.size, o, none⟩ = #[Value.int .i64 0, .slice none 0 0, .int .i64 0][o]?) /\ (∀ o, wr.frozen? ⟨w.heap.size, o, none⟩ = false) /\ ¬ R'.has w.heap.size) := fun {wr R'} hk => by
  obtain ⟨a1, a2, a3⟩ := hk.keeps hwz (by omega) hnr
  exact ⟨fun o => by rw [World.cell?_of_block (w := w0) a1]; exact hq0 o, fun o => by rw [World.frozen?_of_block (w := w0) a1]; exact hf0 o, a2⟩
 have hwx : w.heap.size ≠ xb := by omega
 have HQ2 : Hid (¬ Q w.heap.size) := hnq
 clear t1 t2 t3 tk hT hq0 hf0 hw0 hsz hnq hnr hRl h
 go_enter Tryz.func49, Tryz.ntmps49
 go_wp2
 rw [HW0.out]
 go_loopg [] n (fun k wr => ∃ (mj : MS) (Rj : MR) (vj : Value) (wt : Bool), MC xb wb wc W Q wr mj fuel (m.used + units) wt Rj vj /\ MM xb R Rj w0 wr /\ ((wt = false /\ Trn W fuel (m.used + units) k mj m' b) ∨ (wt = true /\ mj = m' /\ b = true)))
 case atStart => exact ⟨m, R, vi, false, HM.out, MM.refl _ _ _, .inl ⟨rfl, HT.out⟩⟩
 case round =>
  obtain ⟨mj, Rj, vj, wt, hM, hk, hor⟩ := hrel
  rcases hor with ⟨rfl, hT⟩ | ⟨rfl, rfl, rfl⟩
  ·cases hT with
   | over _ ov =>
    have c9 := hM.coAt
    have c11 := hM.usAt
    have c12 := hM.ovAt
    have c13 := hM.waAt
    obtain ⟨oa, oc, ho⟩ := owned_slice hM.rows.ou
    have c10 : wr.cell? ⟨xb, 10, none⟩ = some (.slice oa m'.out.length oc) := hM.ouAt.trans (by rw [ho])
    obtain ⟨hrc, hrz, hrn⟩ := HKP.out hk
    have r0 := hrc 0
    have r1 := hrc 1
    have r2 := hrc 2
    have z0 := hrz 0
    have z1 := hrz 1
    have z2 := hrz 2
    have HFin := fun x y z => gn_post (x := x) (y := y) (z := z) hM (HK.out.trans hk) (Nat.le_refl _) hwx hrn HQ2.out ho
    have HFi : Hid _ := HFin
    clear HFin ho hrc hrz hrn hM hk
    rw [ov] at c12
    go_wp2
    go_region
    all_goals go_wp2
    all_goals refine bodyPost_ret (v := .tuple #[.agg #[.int .i64 ((m'.over.getD 0 : Nat) : Int), .slice oa m'.out.length oc, .int .i64 (m'.used : Nat)], .bool m'.over.isSome]) (by simp [results, Tryz.results49, go_sem, r0, r1, r2, ov]) rfl ?_
    all_goals go_light
    all_goals exact HFi.out _ _ _
   | wait _ h0 h1 h2 h3 =>
    have c12 := hM.ovAt
    have c13 := hM.waAt
    rw [h0] at c12
    have HS := step_unit_wait hM hW h1 h2 h3
    unfold StPo at HS
    have HK1 : Hid _ := hk
    clear hM hk h0 h1 h2 h3
    go_wp2_with (go_at_call 73; refine HS.mono ?_; rintro e w5 ⟨rfl, R5, v5, hM5, hk5⟩)
    go_roundg 0
    case measure => omega
    case rel => exact ⟨m', R5, v5, true, hM5, MM.trans HK1.out hk5, .inr (by simp)⟩
   | @step k2 _ m2 _ _ h0 h1 h2 h3 h4 h5 h6 =>
    have c12 := hM.ovAt
    have c13 := hM.waAt
    rw [h0] at c12
    have HS := step_any hM hW hK h2 h5 h3 h4 h1
    unfold StPo at HS
    have HK1 : Hid _ := hk
    have HT6 : Hid _ := h6
    clear hM hk h0 h1 h2 h3 h5 h6
    go_wp2_with (go_at_call 73; refine HS.mono ?_; rintro e w5 ⟨rfl, R5, v5, hM5, hk5⟩)
    go_roundg k2
    case measure => omega
    case rel => exact ⟨m2, R5, v5, false, hM5, MM.trans HK1.out hk5, .inl ⟨rfl, HT6.out⟩⟩
  ·cases ov : mj.over.isSome with
   | true =>
    have c9 := hM.coAt
    have c11 := hM.usAt
    have c12 := hM.ovAt
    have c13 := hM.waAt
    obtain ⟨oa, oc, ho⟩ := owned_slice hM.rows.ou
    have c10 : wr.cell? ⟨xb, 10, none⟩ = some (.slice oa mj.out.length oc) := hM.ouAt.trans (by rw [ho])
    obtain ⟨hrc, hrz, hrn⟩ := HKP.out hk
    have r0 := hrc 0
    have r1 := hrc 1
    have r2 := hrc 2
    have z0 := hrz 0
    have z1 := hrz 1
    have z2 := hrz 2
    have HFin := fun x y z => gn_post (x := x) (y := y) (z := z) hM (HK.out.trans hk) (Nat.le_refl _) hwx hrn HQ2.out ho
    have HFi : Hid _ := HFin
    clear HFin ho hrc hrz hrn hM hk
    rw [ov] at c12
    go_wp2
    go_region
    all_goals go_wp2
    all_goals refine bodyPost_ret (v := .tuple #[.agg #[.int .i64 ((mj.over.getD 0 : Nat) : Int), .slice oa mj.out.length oc, .int .i64 (mj.used : Nat)], .bool mj.over.isSome]) (by simp [results, Tryz.results49, go_sem, r0, r1, r2, ov]) rfl ?_
    all_goals go_light
    all_goals exact HFi.out _ _ _
   | false =>
    have c9 := hM.coAt
    have c11 := hM.usAt
    have c12 := hM.ovAt
    have c13 := hM.waAt
    obtain ⟨oa, oc, ho⟩ := owned_slice hM.rows.ou
    have c10 : wr.cell? ⟨xb, 10, none⟩ = some (.slice oa mj.out.length oc) := hM.ouAt.trans (by rw [ho])
    obtain ⟨hrc, hrz, hrn⟩ := HKP.out hk
    have r0 := hrc 0
    have r1 := hrc 1
    have r2 := hrc 2
    have z0 := hrz 0
    have z1 := hrz 1
    have z2 := hrz 2
    have HFin := fun x y z => gn_post (x := x) (y := y) (z := z) hM (HK.out.trans hk) (Nat.le_refl _) hwx hrn HQ2.out ho
    have HFi : Hid _ := HFin
    clear HFin ho hrc hrz hrn hM hk
    rw [ov] at c12
    go_wp2
    go_region
    all_goals go_wp2
    all_goals refine bodyPost_ret (v := .tuple #[.agg #[.int .i64 ((mj.over.getD 0 : Nat) : Int), .slice oa mj.out.length oc, .int .i64 (mj.used : Nat)], .bool mj.over.isSome]) (by simp [results, Tryz.results49, go_sem, r0, r1, r2, ov]) rfl ?_
    all_goals go_light
    all_goals exact HFi.out _ _ _
end
section
variable {wb wc : Nat} {W : List Nat} {Q : Nat -> Prop} {w w' : World} {vi : Value}
def NewPo (wb wc : Nat) (W : List Nat) (Q : Nat -> Prop) (st pl fuel : Nat) (xs : List Int) (vi : Value) (w : World) (e : Ending) (w' : World) : Prop :=
 e = .returned (.pointer (some ⟨w.heap.size + 2, 0, none⟩)) /\ Below w.heap.size w w' /\ ∃ R, (∀ b, R.has b -> w.heap.size <= b) /\ MC (w.heap.size + 2) wb wc W Q w' (m0 (W, st, pl) xs) fuel 0 false R vi
theorem new_mc {st pl fuel : Nat} {xs : List Int} (hq : ∀ b, Q b -> b < w.heap.size) (hqw : Q wb) (hwd : ∀ j x, W[j]? = some x -> w.cell? ⟨wb, j, none⟩ = some (.int .i64 (x : Nat))) (hin : InpV Q w vi xs) (hr : Rng xs) (hpl : pl <= 1000000) (A : Array Value) (t : TypeId) (C : Array Value) (u : TypeId)
  (hC : C = #[.slice (some ⟨wb, 0, none⟩) W.length wc, .int .i64 (st : Nat), .slice (some ⟨w.heap.size + 1, 0, none⟩) pl pl, .slice none 0 0, .int .i64 0, .slice none 0 0, vi, .int .i64 (fuel : Nat), .int .i64 0, .int .i64 0, .slice none 0 0, .int .i64 0, .bool false, .bool false]) {k : Nat} :
  Below w.heap.size w ((((w.alloc (.cells A t)).alloc (.cells (madeCells #[.int .i32 0] (pl * 1)) 21)).alloc (.cells C u)).drewN k) /\ ∃ R, (∀ b, R.has b -> w.heap.size <= b) /\ MC (w.heap.size + 2) wb wc W Q ((((w.alloc (.cells A t)).alloc (.cells (madeCells #[.int .i32 0] (pl * 1)) 21)).alloc (.cells C u)).drewN k) (m0 (W, st, pl) xs) fuel 0 false R vi := by
 have e1 : (w.alloc (.cells A t)).heap.size = w.heap.size + 1 := by simp
 have e2 : ((w.alloc (.cells A t)).alloc (.cells (madeCells #[.int .i32 0] (pl * 1)) 21)).heap.size = w.heap.size + 2 := by simp
 have hB : Below w.heap.size w (((w.alloc (.cells A t)).alloc (.cells (madeCells #[.int .i32 0] (pl * 1)) 21)).alloc (.cells C u)) := (((Below.refl _ _).alloc (Nat.le_refl _) _).alloc (by simp) _).alloc (by simp <;> omega) _
 have hB2 : Below w.heap.size w ((((w.alloc (.cells A t)).alloc (.cells (madeCells #[.int .i32 0] (pl * 1)) 21)).alloc (.cells C u)).drewN k) := hB.trans ((Below.drewN' k _).mono hB.size)
 have hc : ∀ o, (((w.alloc (.cells A t)).alloc (.cells (madeCells #[.int .i32 0] (pl * 1)) 21)).alloc (.cells C u)).cell? ⟨w.heap.size + 2, o, none⟩ = C[o]? := fun o => by
  rw [<- e2]; exact World.cell?_alloc_new _ C u o
 have hf : ∀ o, (((w.alloc (.cells A t)).alloc (.cells (madeCells #[.int .i32 0] (pl * 1)) 21)).alloc (.cells C u)).frozen? ⟨w.heap.size + 2, o, none⟩ = false := fun o => by
  rw [<- e2]; exact World.frozen?_alloc_new _ C u o
 have hown : (((w.alloc (.cells A t)).alloc (.cells (madeCells #[.int .i32 0] (pl * 1)) 21)).alloc (.cells C u)).ownsRow 0 21 1 (.slice (some ⟨w.heap.size + 1, 0, none⟩) pl pl) (List.replicate pl (0 : Int)).length ((List.replicate pl (0 : Int)).map (.int .i32)) := by
  have h1 := World.ownsRow_lit (base := 0) (e := 21) (size := 1) (w.alloc (.cells A t)) (madeCells #[.int .i32 0] (pl * 1)) pl (Nat.zero_le _) (by unfold maxLen; omega) (size_madeCells _ _)
  rw [toList_madeCells_one, e1, Nat.mul_one] at h1
  rw [List.length_replicate, List.map_replicate, Nat.mul_one]
  exact h1.alloc _
 have hh : ∀ b, (⟨.slice (some ⟨w.heap.size + 1, 0, none⟩) pl pl, .slice none 0 0, .slice none 0 0, .slice none 0 0⟩ : MR).has b -> b = w.heap.size + 1 := by
  rintro b (e | e | e | e)
  ·exact (Option.some.inj e).symm
  ·cases e
  ·cases e
  ·cases e
 refine ⟨hB2, ⟨.slice (some ⟨w.heap.size + 1, 0, none⟩) pl pl, .slice none 0 0, .slice none 0 0, .slice none 0 0⟩, fun b hb => by have := hh b hb; omega, MC.below (w := ((w.alloc (.cells A t)).alloc (.cells (madeCells #[.int .i32 0] (pl * 1)) 21)).alloc (.cells C u)) ⟨?_, hf, ?_⟩ (Below.drewN' k _)⟩
 ·intro o v hv
  rw [hc, hC]
  rw [<- hv]
  simp [mcCells, m0]
 ·refine ⟨hown, World.ownsRow_nil _ _ _ _, World.ownsRow_nil _ _ _ _, World.ownsRow_nil _ _ _ _, hin.same fun b hb => hB.block b (hq b hb), fun j x hj => by rw [hB.cell (p := ⟨wb, j, none⟩) (hq wb hqw)]; exact hwd j x hj, fun k _ e => (by cases e), fun k _ e => (by cases e), fun k _ e => (by cases e), fun k e => (by cases e), fun k e => (by cases e), fun k e => (by cases e), hqw, fun b hb => ?_, fun e => ?_, ?_, ?_, fun v hv => (by cases hv), hr, Nat.zero_le _, Nat.zero_le _⟩
  ·have := hq b hb
   refine ⟨by simp; omega, by omega, fun e => ?_⟩
   have := hh b e; omega
  ·have := hh _ e; omega
  ·simp
  ·intro v hv
   rw [List.eq_of_mem_replicate hv]; omega
theorem new_any {st pl fuel : Nat} {xs : List Int} (hq : ∀ b, Q b -> b < w.heap.size) (hqw : Q wb) (hwd : ∀ j x, W[j]? = some x -> w.cell? ⟨wb, j, none⟩ = some (.int .i64 (x : Nat))) (hin : InpV Q w vi xs) (hr : Rng xs) (hpl : pl <= 1000000) :
  Calls Tryz.prog 71 #[.agg #[.slice (some ⟨wb, 0, none⟩) W.length wc, .int .i64 (st : Nat), .int .i64 (pl : Nat)], vi, .int .i64 (fuel : Nat)] w (NewPo wb wc W Q st pl fuel xs vi w) := by
 obtain ⟨i0, hi, hz0, hz1, hz2⟩ := info_parts Tryz.infoI32
 have hmk := fun W1 => run_make (P := Tryz.prog) W1 129 21 i0 (.int .i32 0) Tryz.underlying129 hi hz0 .i64 .i64 (pl : Int) (pl : Int) (by omega) (Int.le_refl _) (by rw [hz2]; omega) (by omega)
 simp only [Int.toNat_natCast, hz1] at hmk
 have HN := fun C u k (hC : C = #[.slice (some ⟨wb, 0, none⟩) W.length wc, .int .i64 (st : Nat), .slice (some ⟨w.heap.size + 1, 0, none⟩) pl pl, .slice none 0 0, .int .i64 0, .slice none 0 0, vi, .int .i64 (fuel : Nat), .int .i64 0, .int .i64 0, .slice none 0 0, .int .i64 0, .bool false, .bool false]) => new_mc hq hqw hwd hin hr hpl #[.slice (some ⟨wb, 0, none⟩) W.length wc, .int .i64 (st : Nat), .int .i64 (pl : Nat)] 134 C u hC (k := k)
 rw [Nat.mul_one] at HN
 have HNN : Hid _ := HN
 obtain ⟨ia, ic, hvi, _⟩ := hin
 subst hvi
 clear HN hwd hr hq hqw hi hz0 hz1 hz2
 go_enter Tryz.func71, Tryz.ntmps71
 go_wp2
 go_region
 all_goals go_wp2
 all_goals go_ret
 all_goals exact ⟨rfl, HNN.out _ _ 1 rfl⟩
end
def IntsAt (w : World) (v : Value) (zs : List Int) : Prop :=
 ∃ a cap, v = .slice a zs.length cap /\ zs.length <= maxLen /\ (∀ n ∈ zs, -9223372036854775808 <= n /\ n <= 9223372036854775807) /\
  (zs = [] ∨ ∃ b off, a = some ⟨b, off, none⟩ /\ b < w.heap.size /\ ∀ i, i < zs.length -> w.cell? ⟨b, off + i, none⟩ = some (.int .i64 (zs.getD i 0)))
def pickI (c n : Int) : Int := (if c < 0 then -(c + 1) else c).tmod n
theorem pickI_lt (c : Int) {n : Nat} (hn : 0 < n) : (pickI c n).toNat < n /\ 0 <= pickI c n /\ pickI c n < n := by
 unfold pickI
 have h0 : (0 : Int) <= (if c < 0 then -(c + 1) else c) := by split <;> omega
 generalize (if c < 0 then -(c + 1) else c) = d at *
 have h1 := Int.tmod_nonneg (n : Int) h0
 have h2 := Int.tmod_lt_of_pos d (b := (n : Int)) (by omega)
 omega
def okIn (zs : List Int) : Bool := zs.all fun z => decide (-2147483648 <= z /\ z <= 2147483647)
def VoPost (zs : List Int) (w : World) (e : Ending) (w' : World) : Prop :=
 Below w.heap.size w w' /\ ((okIn zs = true /\ ∃ vi, e = .returned (.tuple #[vi, .bool true]) /\ w'.ownsRow w.heap.size 21 1 vi zs.length (zs.map (.int .i32))) ∨ (okIn zs = false /\ e = .returned (.tuple #[.slice none 0 0, .bool false])))
theorem valuesOf_any (v : Value) (zs : List Int) (w : World) (hin : IntsAt w v zs) (hl : zs.length <= 35184372088831) :
  Calls Tryz.prog 70 #[v] w (VoPost zs w) := by
 obtain ⟨i0, hi, hz0, hz1, hz2⟩ := info_parts Tryz.infoI32
 obtain ⟨a, cap, rfl, hm, hr, hc⟩ := hin
 have HR : Hid (∀ n ∈ zs, -9223372036854775808 <= n /\ n <= 9223372036854775807) := hr
 have HC : Hid (zs = [] ∨ ∃ b off, a = some ⟨b, off, none⟩ /\ b < w.heap.size /\ ∀ i, i < zs.length -> w.cell? ⟨b, off + i, none⟩ = some (.int .i64 (zs.getD i 0))) := hc
 clear hr hc
 go_enter Tryz.func70, Tryz.ntmps70
 go_wp2_with (at_make; refine wpList_make_own _ rfl _ _ 129 rfl w.heap.size 21 i0 _ 1 Tryz.underlying129 hi hz0 hz1 .i64 .i64 _ zs.length rfl rfl rfl (by rw [hz2]; omega) (by unfold maxLen; omega) (Nat.le_refl _) ?_
              intro w1 ho1 hg1)
 have hB1 : Below w.heap.size w w1 := ⟨hg1.os, hg1.tape, hg1.output, hg1.size, fun k hk => hg1.block k hk (by simp)⟩
 go_loopw [4, 6, 12] (fun s4 _ i wr => ∃ j : Nat, i = .int .i64 j /\ j <= zs.length /\ okIn (zs.take j) = true /\ wr.ownsRow w.heap.size 21 1 s4 j ((zs.take j).map (.int .i32)) /\ Below w.heap.size w wr) (fun _ _ i _ => zs.length - (intOf i).toNat)
 case atStart => exact ⟨0, rfl, Nat.zero_le _, rfl, by simpa using ho1, hB1⟩
 case round =>
  obtain ⟨j, rfl, hj, hok, hown, hB⟩ := hrel
  by_cases hlt : j < zs.length
  ·rcases HC.out with h0 | ⟨b, off, rfl, hbl, hcs⟩
   ·rw [h0] at hlt; simp at hlt
   ·have hcell : wr.cell? ⟨b, off + j, none⟩ = some (.int .i64 zs[j]) := by
     rw [hB.cell (p := ⟨b, off + j, none⟩) hbl, hcs j hlt]; simp [List.getD, hlt]
    have hrj := HR.out zs[j] (List.getElem_mem hlt)
    have hsj : zs.take (j + 1) = zs.take j ++ [zs[j]] := by rw [List.take_add_one, List.getElem?_eq_getElem hlt]; rfl
    have HS : Hid (zs.take (j + 1) = zs.take j ++ [zs[j]]) := hsj
    have HALL : Hid (¬ (-2147483648 <= zs[j] /\ zs[j] <= 2147483647) -> okIn zs = false) := fun hn => by
     unfold okIn
     rw [List.all_eq_false]
     exact ⟨zs[j], List.getElem_mem hlt, by simpa using hn⟩
    clear hsj
    have hjl : (j : Int) < (zs.length : Int) := by omega
    generalize zs[j] = z at *
    by_cases hz : -2147483648 <= z /\ z <= 2147483647
    ·have h1 : ¬ z < -2147483648 := by omega
     have h2 : ¬ z > 2147483647 := by omega
     have hwr : IntKind.i32.wrap z = z := by rw [i32_wrap]; unfold wrapV Int.bmod; simp only; split <;> omega
     have hownA := hown.alloc (.cells #[.int .i32 z] 21)
     have hks : ∀ q u, [Value.int .i32 z][q]? = some u -> (wr.alloc (.cells #[.int .i32 z] 21)).cell? ((⟨wr.heap.size, 0, none⟩ : Addr).add q) = some u := by
      intro q u hq
      cases q with
      | zero => simp at hq; subst hq; exact World.cell?_alloc_new wr #[.int .i32 z] 21 0
      | succ q => simp at hq
     have hsz : w.heap.size <= (wr.alloc (.cells #[.int .i32 z] 21)).heap.size := by have := hB.size; simp; omega
     have HO : Hid (okIn (zs.take (j + 1)) = true) := by
      show _ = _
      rw [HS.out]
      unfold okIn at hok ⊢
      rw [List.all_append, hok]
      simp [hz]
     have HBB := hB
     obtain ⟨va, vc, hva⟩ := owned_slice hown
     subst hva
     go_wp2_with (at_builtin; refine wpList_append_own2 rfl _ _ 129 rfl w.heap.size 21 i0 _ 1 4 Tryz.underlying129 hi hz0 hz1 hz2 rfl (by decide) _ _ _ rfl hownA ⟨wr.heap.size, 0, none⟩ 1 1 [.int .i32 z] rfl (by simp) hks ?h1 ?h63 ?hby ?hbase ?hh
                  case h1 => intro u hu; simp at hu; subst hu; rfl
                  case h63 => unfold maxLen; omega
                  case hby => omega
                  case hbase => exact hsz
                  intro v' w5 hown5 hg5 hn5
                  have HN5 : Hid (Below w.heap.size w w5 /\ w5.ownsRow w.heap.size 21 1 v' (j + 1) ((zs.take (j + 1)).map (.int .i32))) := ⟨(HBB.alloc HBB.size _).trans ⟨hg5.os, hg5.tape, hg5.output, hg5.size, fun k hk => hg5.block k (by have := HBB.size; simp; omega) (fun e => by have := (hownA.lt k e.symm).1; omega)⟩, by rw [HS.out, List.map_append]; exact hown5⟩
                  obtain ⟨va2, vc2, rfl⟩ := owned_slice hown5)
     go_roundw
     case rel => exact ⟨j + 1, by go_num, by omega, HO.out, HN5.out.2, HN5.out.1⟩
     case measure => simp [intOf]; omega
    ·have HF := HALL.out hz
     have HFI : Hid _ := HF
     by_cases h1 : z < -2147483648
     ·go_wp2
      refine bodyPost_ret (v := .tuple #[.slice none 0 0, .bool false]) (by simp [results, Tryz.results70, go_sem]) rfl ?_
      exact ⟨hB, .inr ⟨HFI.out, rfl⟩⟩
     ·have h2 : z > 2147483647 := by omega
      go_wp2
      refine bodyPost_ret (v := .tuple #[.slice none 0 0, .bool false]) (by simp [results, Tryz.results70, go_sem]) rfl ?_
      exact ⟨hB, .inr ⟨HFI.out, rfl⟩⟩
  ·have ej : j = zs.length := by omega
   subst ej
   rw [List.take_length] at hok hown
   obtain ⟨va, vc, hva⟩ := owned_slice hown
   subst hva
   go_wp2
   refine bodyPost_ret (v := .tuple #[.slice va zs.length vc, .bool true]) (by simp [results, Tryz.results70, go_sem]) rfl ?_
   exact ⟨hB, .inl ⟨hok, _, rfl, hown⟩⟩
end Go.Proofs.YtklobognaldjpaaGreat
