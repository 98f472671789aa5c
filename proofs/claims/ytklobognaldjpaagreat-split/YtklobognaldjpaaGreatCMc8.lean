/- The machine: what is read; the end of a call. The machine: operations. The machine: a step. -/
import Derived.Test.YtklobognaldjpaaGreatCMc5
set_option maxRecDepth 1000000
set_option maxHeartbeats 2000000
namespace Go.Proofs.YtklobognaldjpaaGreat
open Go.RowKit
section
variable {xb wb wc fuel limit : Nat} {W : List Nat} {Q : Nat -> Prop} {w w' w1 : World} {m : MS} {waits : Bool} {R : MR} {vi : Value}
theorem MC.setInput (h : MC xb wb wc W Q w m fuel limit waits R vi) {v' : Value} {xs : List Int} (hi : InpV Q w v' xs) (hr : Rng xs) :
  MC xb wb wc W Q (w.setCell ⟨xb, 6, none⟩ v') { m with input := xs } fuel limit waits R v' /\ MM xb R R w (w.setCell ⟨xb, 6, none⟩ v') := by
 have hq : ∀ b, Q b -> (w.setCell ⟨xb, 6, none⟩ v').heap[b]? = w.heap[b]? := fun b hb => Below.heap_setCell _ _ _ _ (h.rows.far b hb).2.1
 have hx := h.rows.setX 6 v'
 refine ⟨⟨h.cel.set (o := 6) (by simp [mcCells]) v', fun k => by rw [World.frozen?_setCell]; exact h.frz k, ?_⟩, MM.setX _ _ _ _ _⟩
 exact ⟨hx.pl, hx.st, hx.ca, hx.ou, hi.same hq, hx.wds, hx.s1, hx.s2, hx.s3, hx.s4, hx.s5, hx.s6, hx.qw, hx.far, hx.xr, hx.xlt, hx.rp, hx.rs, hr, hx.c30, hx.o60⟩
theorem read_go (h : MC xb wb wc W Q w m fuel limit waits R vi) {x : Int} {r : List Int} (h0 : m.input = x :: r) (hbig : m.stack.length <= 1000000) :
  Calls Tryz.prog 112 #[.pointer (some ⟨xb, 0, none⟩)] w fun e w' => e = .returned (.tuple #[]) /\ ∃ R' vi', MC xb wb wc W Q w' { m with stack := m.stack ++ [x], input := r } fuel limit waits R' vi' /\ MM xb R R' w w' := by
 have hc := h.inAt
 have hri := h.rows.ri
 rw [h0] at hri
 have hx := hri x (by simp)
 obtain ⟨a, c, hv, hle, hcm, hcs⟩ := h.rows.inp
 rw [h0] at hv hle hcs
 rcases hcs with hcs | ⟨b, o, rfl, hqb, hcs⟩
 ·cases hcs
 have hc0 : w.cell? ⟨b, o, none⟩ = some (.int .i32 x) := hcs 0 x rfl
 have HP := push_any h hx hbig
 unfold MPo at HP
 have hl1 : ((x :: r).length : Nat) = r.length + 1 := rfl
 rw [hl1] at hv hle
 have hlp : ((r.length + 1 : Nat) : Int) = (r.length : Int) + 1 := by omega
 by_cases hc1 : c = 1
 ·have hr0 : r = [] := List.eq_nil_of_length_eq_zero (by omega)
  subst hr0 hc1
  rw [hv] at hc
  have HI : ∀ W2 R2, MC xb wb wc W Q W2 (m.push x) fuel limit waits R2 vi -> W2.cell? ⟨xb, 6, none⟩ = some (.slice (some ⟨b, o, none⟩) 1 1) /\ W2.frozen? ⟨xb, 6, none⟩ = false /\ MC xb wb wc W Q (W2.setCell ⟨xb, 6, none⟩ (.slice (some ⟨b, o, none⟩) 0 0)) { m with stack := m.stack ++ [x], input := [] } fuel limit waits R2 (.slice (some ⟨b, o, none⟩) 0 0) /\ MM xb R2 R2 W2 (W2.setCell ⟨xb, 6, none⟩ (.slice (some ⟨b, o, none⟩) 0 0)) := fun W2 R2 hM => by
   have t := hM.setInput (v' := .slice (some ⟨b, o, none⟩) 0 0) (xs := []) ⟨_, _, rfl, Nat.zero_le _, Nat.zero_le _, .inl rfl⟩ (fun v hv => by cases hv)
   exact ⟨hM.inAt.trans (by rw [hv]; rfl), hM.frz 6, t.1, t.2⟩
  have HII : Hid _ := HI
  have hcv : w.cell? ⟨xb, 6, none⟩ = some (.slice (some ⟨b, o, none⟩) 1 1) := hc
  clear HI hv hc hcs h0 hri
  go_enter Tryz.func112, Tryz.ntmps112
  go_wp2_with (go_at_call 105; refine HP.mono ?_; rintro e w2 ⟨rfl, R2, hM2, hk2⟩; obtain ⟨q1, q2, q3, q4⟩ := HII.out _ _ hM2)
  go_end0
  exact ⟨rfl, R2, _, q3, hk2.trans q4⟩
 ·have hc2 : 2 <= c := by omega
  rw [hv] at hc
  obtain ⟨c', rfl⟩ : ∃ c', c = c' + 2 := ⟨c - 2, by omega⟩
  have HI : ∀ W2 R2, MC xb wb wc W Q W2 (m.push x) fuel limit waits R2 vi -> MM xb R R2 w W2 -> W2.cell? ⟨xb, 6, none⟩ = some (.slice (some ⟨b, o, none⟩) (r.length + 1) (c' + 2)) /\ W2.frozen? ⟨xb, 6, none⟩ = false /\ MC xb wb wc W Q (W2.setCell ⟨xb, 6, none⟩ (.slice (some ⟨b, o + 1, none⟩) r.length (c' + 1))) { m with stack := m.stack ++ [x], input := r } fuel limit waits R2 (.slice (some ⟨b, o + 1, none⟩) r.length (c' + 1)) /\ MM xb R2 R2 W2 (W2.setCell ⟨xb, 6, none⟩ (.slice (some ⟨b, o + 1, none⟩) r.length (c' + 1))) := fun W2 R2 hM hk => by
   have t := hM.setInput (v' := .slice (some ⟨b, o + 1, none⟩) r.length (c' + 1)) (xs := r) ⟨_, _, rfl, by omega, by omega, .inr ⟨b, o + 1, rfl, hqb, fun j y hj => by
    have h1 := hcs (j + 1) y (by simpa using hj)
    have hf := h.rows.far b hqb
    rw [hk.1.cell hf.1 (by rintro (e | e); exact hf.2.1 e; exact hf.2.2 e)]
    rw [show o + 1 + j = o + (j + 1) by omega]
    exact h1⟩⟩ (fun v hv => hri v (by simp [hv]))
   exact ⟨hM.inAt.trans (by rw [hv]), hM.frz 6, t.1, t.2⟩
  have HII : Hid _ := HI
  have hrl : r.length + 1 <= c' + 2 := hle
  have hcm' : c' + 2 <= maxLen := hcm
  clear HI hv hcs h0 hri
  go_enter Tryz.func112, Tryz.ntmps112
  go_wp2_with (go_at_call 105; refine HP.mono ?_; rintro e w2 ⟨rfl, R2, hM2, hk2⟩; obtain ⟨q1, q2, q3, q4⟩ := HII.out _ _ hM2 hk2)
  go_end0
  exact ⟨rfl, R2, _, q3, hk2.trans q4⟩
theorem MC.stackCut' (h : MC xb wb wc W Q w m fuel limit waits R vi) {k : Nat} (hk : k <= m.stack.length) : ∃ sa sc, R.st = .slice sa m.stack.length sc /\ m.stack.length <= sc /\ sc <= maxLen /\ (sa = none -> m.stack.length = 0 /\ sc = 0) /\ (∀ a, sa = some a -> a = ⟨a.block, 0, none⟩) /\
  MC xb wb wc W Q (w.setCell ⟨xb, 3, none⟩ (.slice sa k sc)) { m with stack := m.stack.take k } fuel limit waits { R with st := .slice sa k sc } vi /\ MM xb R { R with st := .slice sa k sc } w (w.setCell ⟨xb, 3, none⟩ (.slice sa k sc)) := by
 rcases h.rows.st.2 with ⟨e1, e2⟩ | ⟨g, cap, cur, hv, _, _, hn, hcm, _⟩
 ·have hk0 : k = 0 := by omega
  subst hk0
  refine ⟨none, 0, by rw [e1, e2], by omega, Nat.zero_le _, fun _ => ⟨e2, rfl⟩, (fun a ha => by cases ha), ?_⟩
  refine h.stackTo (w1 := w) ⟨rfl, rfl, rfl, Nat.le_refl _, fun _ _ _ => rfl⟩ ?_ (.inl (by rw [e1])) (rng_take h.rows.rs 0)
  exact World.ownsRow_nil _ _ _ _
 ·exact ⟨some ⟨g, 0, none⟩, cap, hv, hn, hcm, fun e => (by cases e), (fun a ha => by cases ha; rfl), h.stackCut hv hk⟩
theorem flatF_at : ∀ (l : List (Nat × Nat)) (j : Nat) (f : Nat × Nat), l[j]? = some f -> (flatF l)[j * 2]? = some (.int .i64 (f.1 : Nat)) /\ (flatF l)[j * 2 + 1]? = some (.int .i64 (f.2 : Nat))
 | [], j, f, h => by simp at h
 | a :: l, 0, f, h => by simp at h; subst h; exact ⟨rfl, rfl⟩
 | a :: l, j + 1, f, h => by
  have := flatF_at l j f (by simpa using h)
  have e : flatF (a :: l) = .int .i64 (a.1 : Nat) :: .int .i64 (a.2 : Nat) :: flatF l := rfl
  rw [e, show (j + 1) * 2 = j * 2 + 1 + 1 by omega, List.getElem?_cons_succ, List.getElem?_cons_succ, List.getElem?_cons_succ, List.getElem?_cons_succ]
  exact this
theorem leave_any (h : MC xb wb wc W Q w m fuel limit waits R vi) {f : Nat × Nat} (hc : m.calls.getLast? = some f) (hb : m.base <= m.stack.length) (hbig : m.stack.length <= 1000000) :
  Calls Tryz.prog 110 #[.pointer (some ⟨xb, 0, none⟩)] w (MPo xb wb wc W Q fuel limit waits R w (.tuple #[]) { m with pc := f.1, base := f.2, calls := m.calls.dropLast, stack := m.stack.take m.base } vi) := by
 have hne : m.calls ≠ [] := fun e => by rw [e] at hc; cases hc
 have hpos : 0 < m.calls.length := List.length_pos_iff.2 hne
 have hc30 := h.rows.c30
 obtain ⟨g, cap, hv, _, hgl⟩ := h.rows.ca.form hpos
 obtain ⟨k, hk⟩ : ∃ k, m.calls.length = k + 1 := ⟨m.calls.length - 1, by omega⟩
 have hfk : m.calls[k]? = some f := by rw [List.getLast?_eq_getElem?] at hc; rw [<- hc]; congr 1; omega
 obtain ⟨f1, f2⟩ := flatF_at _ _ _ hfk
 have hcap : k + 1 <= cap := by
  rcases h.rows.ca.2 with ⟨e, e2⟩ | ⟨g', cap', cur, e, _, _, hle, _⟩
  ·omega
  ·rw [hv] at e; injection e with e1 e2 e3; omega
 have hgx : g ≠ xb := fun e => h.rows.xr (.inr (.inr (.inl (by rw [hv, e]; rfl))))
 have hc5 := h.caAt
 have hc3 := h.stAt
 have hc4 := h.baAt
 have hz3 := h.frz 3
 rw [hv, hk] at hc5
 obtain ⟨sa, sc, hsv, hsl, hsm, hsn, hsa, hM0, hk0⟩ := h.stackCut' hb
 have hM1 := hM0.below (Below.refl _ _).drew
 have hk1 := hk0.trans (MM.of_below (xb := xb) (Below.refl _ _).drew)
 rw [hsv] at hc3
 generalize hw1 : (w.setCell ⟨xb, 3, none⟩ (.slice sa m.base sc)).drew = w1 at hM1 hk1
 have d5 := hM1.caAt
 have d1 := hM1.pcAt
 have d4 := hM1.baAt
 have y1 := hM1.frz 1
 have y4 := hM1.frz 4
 have y5 := hM1.frz 5
 simp only at d5
 rw [hv, hk] at d5
 have hco : ∀ j, j < (k + 1) * 2 -> w1.cell? ⟨g, j, none⟩ = (flatF m.calls)[j]? := fun j hj => by
  have ho := hM1.rows.ca
  simp only at ho
  rw [hv, hk] at ho
  exact ho.cellAt j hj
 have e1 : w1.cell? ⟨g, k * 2, none⟩ = some (.int .i64 (f.1 : Nat)) := (hco _ (by omega)).trans f1
 have e2 : w1.cell? ⟨g, k * 2 + 1, none⟩ = some (.int .i64 (f.2 : Nat)) := (hco _ (by omega)).trans f2
 have t1 := (hM1.below (Below.refl _ w1).drew).setPc f.1
 have t2 := t1.1.setBase f.2
 have t3 := t2.1.callsCut (g := g) (cap := cap) (k := k) (by simp only; rw [hv]) (by simp only; omega)
 have hdl : m.calls.take k = m.calls.dropLast := by rw [List.dropLast_eq_take]; congr 1; omega
 simp only at t3
 rw [hdl] at t3
 have T3 : Hid _ := t3
 have TM : Hid (MM xb R _ w _) := hk1.trans ((MM.of_below (Below.refl _ w1).drew).trans (t1.2.trans (t2.2.trans t3.2)))
 have hkb : k <= 30 := by omega
 have HW1 : Hid ((w.setCell ⟨xb, 3, none⟩ (.slice sa m.base sc)).drew = w1) := hw1
 have hbb : m.base <= 1000000 := by omega
 have hsl1 : m.base <= sc := by omega
 have hsl2 : (m.base : Int) <= (sc : Int) := by omega
 have HSA : Hid (∀ a, sa = some a -> a = ⟨a.block, 0, none⟩) := hsa
 clear t1 t2 t3 hdl hM1 hk1 hM0 hk0 hco hsv hv hc hne hpos hfk f1 f2 hw1 h hsn hsa
 generalize m.base = mba at *
 generalize m.stack.length = msl at *
 cases sa with
 | none =>
  go_enter Tryz.func110, Tryz.ntmps110
  go_wp2
  go_region
  all_goals rw [HW1.out]
  all_goals go_wp2
  all_goals go_region
  all_goals go_wp2
  all_goals go_end0
  all_goals exact ⟨rfl, _, T3.out.1, TM.out⟩
 | some a =>
  have ha := HSA.out a rfl
  generalize a.block = ab at ha
  subst ha
  go_enter Tryz.func110, Tryz.ntmps110
  go_wp2
  go_region
  all_goals rw [HW1.out]
  all_goals go_wp2
  all_goals go_region
  all_goals go_wp2
  all_goals go_end0
  all_goals exact ⟨rfl, _, T3.out.1, TM.out⟩
end
section
variable {xb wb wc fuel limit : Nat} {W : List Nat} {Q : Nat -> Prop} {w w' w1 : World} {m : MS} {waits : Bool} {R : MR} {vi : Value}
theorem tmod_rng (x : Int) {y : Int} (h0 : y ≠ 0) (hy : -2147483648 <= y /\ y <= 2147483647) : -2147483648 <= x.tmod y /\ x.tmod y <= 2147483647 := by
 have h1 : (x.tmod y).natAbs = x.natAbs % y.natAbs := Int.natAbs_tmod x y
 have h2 : x.natAbs % y.natAbs < y.natAbs := Nat.mod_lt _ (by omega)
 omega
theorem wrapV_in {v : Int} (h : -2147483648 <= v /\ v <= 2147483647) : wrapV v = v := by
 unfold wrapV Int.bmod
 simp only
 split <;> omega
def joinM (m : MS) (op : Nat) (x y : Int) : MS := match joinV op x y with
 | some v => m.push v
 | none => m.end_ 10
theorem divide_any (h : MC xb wb wc W Q w m fuel limit waits R vi) {x y : Int} (hy : -2147483648 <= y /\ y <= 2147483647) (hbig : m.stack.length <= 1000000) {op : Nat} (ho : op = 13 ∨ op = 14) :
  Calls Tryz.prog 161 #[.pointer (some ⟨xb, 0, none⟩), .int .i64 (op : Nat), .int .i32 x, .int .i32 y] w (MPo xb wb wc W Q fuel limit waits R w (.tuple #[]) (joinM m op x y) vi) := by
 have HE := mend_any h 10
 by_cases h0 : y = 0
 ·have e : joinM m op x y = m.end_ 10 := by
   unfold joinM joinV
   rcases ho with rfl | rfl <;> simp [h0]
  rw [e]
  unfold MPo at HE
  subst h0
  clear ho e
  go_enter Tryz.func161, Tryz.ntmps161
  go_wp2_with (go_at_call 103; refine HE.mono ?_; rintro e w2 ⟨rfl, R2, hM2, hk2⟩)
  go_end0
  exact ⟨rfl, R2, hM2, hk2⟩
 ·have hb : (y == 0) = false := by simp [h0]
  rcases ho with rfl | rfl
  ·have e : joinM m 13 x y = m.push (wrapV (x.tdiv y)) := by unfold joinM joinV; simp [h0]
   rw [e]
   have HP := push_any h (wrapV_rng (x.tdiv y)) hbig
   have hw := i32_wrap (x.tdiv y)
   unfold MPo at HP
   clear HE e
   go_enter Tryz.func161, Tryz.ntmps161
   go_wp2_with (go_at_call 105; refine HP.mono ?_; rintro e w2 ⟨rfl, R2, hM2, hk2⟩)
   go_end0
   exact ⟨rfl, R2, hM2, hk2⟩
  ·have e : joinM m 14 x y = m.push (wrapV (x.tmod y)) := by unfold joinM joinV; simp [h0]
   rw [e]
   have HP := push_any h (wrapV_rng (x.tmod y)) hbig
   rw [wrapV_in (tmod_rng x h0 hy)] at HP ⊢
   unfold MPo at HP
   clear HE e
   go_enter Tryz.func161, Tryz.ntmps161
   go_wp2_with (go_at_call 105; refine HP.mono ?_; rintro e w2 ⟨rfl, R2, hM2, hk2⟩)
   go_end0
   exact ⟨rfl, R2, hM2, hk2⟩
theorem join_10 (h : MC xb wb wc W Q w m fuel limit waits R vi) (x y : Int) (hbig : m.stack.length <= 1000000) :
  Calls Tryz.prog 135 #[.pointer (some ⟨xb, 0, none⟩), .int .i64 10, .int .i32 x, .int .i32 y] w (MPo xb wb wc W Q fuel limit waits R w (.tuple #[]) (joinM m 10 x y) vi) := by
 have e : joinM m 10 x y = m.push (wrapV (x + y)) := rfl
 rw [e]
 have HP := push_any h (wrapV_rng (x + y)) hbig
 have hw := i32_wrap (x + y)
 unfold MPo at HP
 clear e
 go_enter Tryz.func135, Tryz.ntmps135
 go_wp2_with (go_at_call 105; refine HP.mono ?_; rintro e w2 ⟨rfl, R2, hM2, hk2⟩)
 go_end0
 exact ⟨rfl, R2, hM2, hk2⟩
theorem join_11 (h : MC xb wb wc W Q w m fuel limit waits R vi) (x y : Int) (hbig : m.stack.length <= 1000000) :
  Calls Tryz.prog 135 #[.pointer (some ⟨xb, 0, none⟩), .int .i64 11, .int .i32 x, .int .i32 y] w (MPo xb wb wc W Q fuel limit waits R w (.tuple #[]) (joinM m 11 x y) vi) := by
 have e : joinM m 11 x y = m.push (wrapV (x - y)) := rfl
 rw [e]
 have HP := push_any h (wrapV_rng (x - y)) hbig
 have hw := i32_wrap (x - y)
 unfold MPo at HP
 clear e
 go_enter Tryz.func135, Tryz.ntmps135
 go_wp2_with (go_at_call 105; refine HP.mono ?_; rintro e w2 ⟨rfl, R2, hM2, hk2⟩)
 go_end0
 exact ⟨rfl, R2, hM2, hk2⟩
theorem join_12 (h : MC xb wb wc W Q w m fuel limit waits R vi) (x y : Int) (hbig : m.stack.length <= 1000000) :
  Calls Tryz.prog 135 #[.pointer (some ⟨xb, 0, none⟩), .int .i64 12, .int .i32 x, .int .i32 y] w (MPo xb wb wc W Q fuel limit waits R w (.tuple #[]) (joinM m 12 x y) vi) := by
 have e : joinM m 12 x y = m.push (wrapV (x * y)) := rfl
 rw [e]
 have HP := push_any h (wrapV_rng (x * y)) hbig
 have hw := i32_wrap (x * y)
 unfold MPo at HP
 clear e
 go_enter Tryz.func135, Tryz.ntmps135
 go_wp2_with (go_at_call 105; refine HP.mono ?_; rintro e w2 ⟨rfl, R2, hM2, hk2⟩)
 go_end0
 exact ⟨rfl, R2, hM2, hk2⟩
theorem join_15 (h : MC xb wb wc W Q w m fuel limit waits R vi) (x y : Int) (hbig : m.stack.length <= 1000000) :
  Calls Tryz.prog 135 #[.pointer (some ⟨xb, 0, none⟩), .int .i64 15, .int .i32 x, .int .i32 y] w (MPo xb wb wc W Q fuel limit waits R w (.tuple #[]) (joinM m 15 x y) vi) := by
 have e : joinM m 15 x y = m.push (truthV (x == y)) := rfl
 rw [e]
 have HP := push_any h (truthV_rng (x == y)) hbig
 have HT := mtruth_any (x == y) w
 unfold MPo at HP
 clear e
 generalize hbv : (x == y) = bv at *
 go_enter Tryz.func135, Tryz.ntmps135
 go_wp2_with (first
  | (go_at_call 134; refine HT.mono ?_; rintro e w3 ⟨rfl, h9⟩; cases h9)
  | (go_at_call 105; refine HP.mono ?_; rintro e w2 ⟨rfl, R2, hM2, hk2⟩))
 go_end0
 exact ⟨rfl, R2, hM2, hk2⟩
theorem join_16 (h : MC xb wb wc W Q w m fuel limit waits R vi) (x y : Int) (hbig : m.stack.length <= 1000000) :
  Calls Tryz.prog 135 #[.pointer (some ⟨xb, 0, none⟩), .int .i64 16, .int .i32 x, .int .i32 y] w (MPo xb wb wc W Q fuel limit waits R w (.tuple #[]) (joinM m 16 x y) vi) := by
 have e : joinM m 16 x y = m.push (truthV (x != y)) := rfl
 rw [e]
 have HP := push_any h (truthV_rng (x != y)) hbig
 have HT := mtruth_any (x != y) w
 unfold MPo at HP
 clear e
 generalize hbv : (x != y) = bv at *
 go_enter Tryz.func135, Tryz.ntmps135
 go_wp2_with (first
  | (go_at_call 134; refine HT.mono ?_; rintro e w3 ⟨rfl, h9⟩; cases h9)
  | (go_at_call 105; refine HP.mono ?_; rintro e w2 ⟨rfl, R2, hM2, hk2⟩))
 go_end0
 exact ⟨rfl, R2, hM2, hk2⟩
theorem join_17 (h : MC xb wb wc W Q w m fuel limit waits R vi) (x y : Int) (hbig : m.stack.length <= 1000000) :
  Calls Tryz.prog 135 #[.pointer (some ⟨xb, 0, none⟩), .int .i64 17, .int .i32 x, .int .i32 y] w (MPo xb wb wc W Q fuel limit waits R w (.tuple #[]) (joinM m 17 x y) vi) := by
 have e : joinM m 17 x y = m.push (truthV (decide (x < y))) := rfl
 rw [e]
 have HP := push_any h (truthV_rng (decide (x < y))) hbig
 have HT := mtruth_any (decide (x < y)) w
 unfold MPo at HP
 clear e
 generalize hbv : (decide (x < y)) = bv at *
 go_enter Tryz.func135, Tryz.ntmps135
 go_wp2_with (first
  | (go_at_call 134; refine HT.mono ?_; rintro e w3 ⟨rfl, h9⟩; cases h9)
  | (go_at_call 105; refine HP.mono ?_; rintro e w2 ⟨rfl, R2, hM2, hk2⟩))
 go_end0
 exact ⟨rfl, R2, hM2, hk2⟩
theorem join_18 (h : MC xb wb wc W Q w m fuel limit waits R vi) (x y : Int) (hbig : m.stack.length <= 1000000) :
  Calls Tryz.prog 135 #[.pointer (some ⟨xb, 0, none⟩), .int .i64 18, .int .i32 x, .int .i32 y] w (MPo xb wb wc W Q fuel limit waits R w (.tuple #[]) (joinM m 18 x y) vi) := by
 have e : joinM m 18 x y = m.push (truthV (decide (x > y))) := rfl
 rw [e]
 have HP := push_any h (truthV_rng (decide (x > y))) hbig
 have HT := mtruth_any (decide (x > y)) w
 unfold MPo at HP
 clear e
 generalize hbv : (decide (x > y)) = bv at *
 go_enter Tryz.func135, Tryz.ntmps135
 go_wp2_with (first
  | (go_at_call 134; refine HT.mono ?_; rintro e w3 ⟨rfl, h9⟩; cases h9)
  | (go_at_call 105; refine HP.mono ?_; rintro e w2 ⟨rfl, R2, hM2, hk2⟩))
 go_end0
 exact ⟨rfl, R2, hM2, hk2⟩
theorem join_13 (h : MC xb wb wc W Q w m fuel limit waits R vi) (x : Int) {y : Int} (hy : -2147483648 <= y /\ y <= 2147483647) (hbig : m.stack.length <= 1000000) :
  Calls Tryz.prog 135 #[.pointer (some ⟨xb, 0, none⟩), .int .i64 13, .int .i32 x, .int .i32 y] w (MPo xb wb wc W Q fuel limit waits R w (.tuple #[]) (joinM m 13 x y) vi) := by
 have HP : Calls Tryz.prog 161 #[.pointer (some ⟨xb, 0, none⟩), .int .i64 13, .int .i32 x, .int .i32 y] w (MPo xb wb wc W Q fuel limit waits R w (.tuple #[]) (joinM m 13 x y) vi) := divide_any h hy hbig (op := 13) (by omega)
 unfold MPo at HP
 generalize joinM m 13 x y = m9 at *
 go_enter Tryz.func135, Tryz.ntmps135
 go_wp2_with (go_at_call 161; refine HP.mono ?_; rintro e w2 ⟨rfl, R2, hM2, hk2⟩)
 go_end0
 exact ⟨rfl, R2, hM2, hk2⟩
theorem join_14 (h : MC xb wb wc W Q w m fuel limit waits R vi) (x : Int) {y : Int} (hy : -2147483648 <= y /\ y <= 2147483647) (hbig : m.stack.length <= 1000000) :
  Calls Tryz.prog 135 #[.pointer (some ⟨xb, 0, none⟩), .int .i64 14, .int .i32 x, .int .i32 y] w (MPo xb wb wc W Q fuel limit waits R w (.tuple #[]) (joinM m 14 x y) vi) := by
 have HP : Calls Tryz.prog 161 #[.pointer (some ⟨xb, 0, none⟩), .int .i64 14, .int .i32 x, .int .i32 y] w (MPo xb wb wc W Q fuel limit waits R w (.tuple #[]) (joinM m 14 x y) vi) := divide_any h hy hbig (op := 14) (by omega)
 unfold MPo at HP
 generalize joinM m 14 x y = m9 at *
 go_enter Tryz.func135, Tryz.ntmps135
 go_wp2_with (go_at_call 161; refine HP.mono ?_; rintro e w2 ⟨rfl, R2, hM2, hk2⟩)
 go_end0
 exact ⟨rfl, R2, hM2, hk2⟩
theorem mjoin_any (h : MC xb wb wc W Q w m fuel limit waits R vi) (x : Int) {y : Int} (hy : -2147483648 <= y /\ y <= 2147483647) (hbig : m.stack.length <= 1000000) {op : Nat} (h1 : 10 <= op) (h2 : op <= 18) :
  Calls Tryz.prog 135 #[.pointer (some ⟨xb, 0, none⟩), .int .i64 (op : Nat), .int .i32 x, .int .i32 y] w (MPo xb wb wc W Q fuel limit waits R w (.tuple #[]) (joinM m op x y) vi) := by
 have : op = 10 ∨ op = 11 ∨ op = 12 ∨ op = 13 ∨ op = 14 ∨ op = 15 ∨ op = 16 ∨ op = 17 ∨ op = 18 := by omega
 rcases this with rfl | rfl | rfl | rfl | rfl | rfl | rfl | rfl | rfl
 ·exact join_10 h x y hbig
 ·exact join_11 h x y hbig
 ·exact join_12 h x y hbig
 ·exact join_13 h x hy hbig
 ·exact join_14 h x hy hbig
 ·exact join_15 h x y hbig
 ·exact join_16 h x y hbig
 ·exact join_17 h x y hbig
 ·exact join_18 h x y hbig
theorem operate_19 (h : MC xb wb wc W Q w m fuel limit waits R vi) {v : Int} (hv : m.stack.getLast? = some v) (hbig : m.stack.length <= 1000000) :
  Calls Tryz.prog 113 #[.pointer (some ⟨xb, 0, none⟩), .int .i64 19] w (MPo xb wb wc W Q fuel limit waits R w (.tuple #[]) { m with stack := m.stack.dropLast ++ [wrapV (-v)] } vi) := by
 have HO := pop_any h hv hbig
 have hl : m.stack.dropLast.length <= 1000000 := by rw [List.length_dropLast]; omega
 have HP : ∀ W2 R2, MC xb wb wc W Q W2 { m with stack := m.stack.dropLast } fuel limit waits R2 vi -> Calls Tryz.prog 105 #[.pointer (some ⟨xb, 0, none⟩), .int .i32 (wrapV (-v))] W2 (MPo xb wb wc W Q fuel limit waits R2 W2 (.tuple #[]) { m with stack := m.stack.dropLast ++ [wrapV (-v)] } vi) := fun W2 R2 hM => push_any hM (wrapV_rng (-v)) hl
 have hw := i32_wrap (-v)
 unfold MPo at HO HP
 clear hv
 go_enter Tryz.func113, Tryz.ntmps113
 go_wp2_with (first
  | (go_at_call 106; refine HO.mono ?_; rintro e w2 ⟨rfl, R2, hM2, hk2⟩)
  | (go_at_call 105; refine (HP _ _ hM2).mono ?_; rintro e w4 ⟨rfl, R4, hM4, hk4⟩))
 go_end0
 exact ⟨rfl, R4, hM4, hk2.trans hk4⟩
theorem operate_20 (h : MC xb wb wc W Q w m fuel limit waits R vi) {v : Int} (hv : m.stack.getLast? = some v) (hbig : m.stack.length <= 1000000) :
  Calls Tryz.prog 113 #[.pointer (some ⟨xb, 0, none⟩), .int .i64 20] w (MPo xb wb wc W Q fuel limit waits R w (.tuple #[]) { m with stack := m.stack.dropLast ++ [truthV (v == 0)] } vi) := by
 have HO := pop_any h hv hbig
 have hl : m.stack.dropLast.length <= 1000000 := by rw [List.length_dropLast]; omega
 have HP : ∀ W2 R2, MC xb wb wc W Q W2 { m with stack := m.stack.dropLast } fuel limit waits R2 vi -> Calls Tryz.prog 105 #[.pointer (some ⟨xb, 0, none⟩), .int .i32 (truthV (v == 0))] W2 (MPo xb wb wc W Q fuel limit waits R2 W2 (.tuple #[]) { m with stack := m.stack.dropLast ++ [truthV (v == 0)] } vi) := fun W2 R2 hM => push_any hM (truthV_rng (v == 0)) hl
 have HT := fun W => mtruth_any (v == 0) W
 unfold MPo at HO HP
 generalize hbv : (v == 0) = bv at *
 clear hv
 go_enter Tryz.func113, Tryz.ntmps113
 go_wp2_with (first
  | (go_at_call 106; refine HO.mono ?_; rintro e w2 ⟨rfl, R2, hM2, hk2⟩)
  | (go_at_call 134; refine (HT _).mono ?_; rintro e w3 ⟨rfl, h9⟩; cases h9)
  | (go_at_call 105; refine (HP _ _ hM2).mono ?_; rintro e w4 ⟨rfl, R4, hM4, hk4⟩))
 go_end0
 exact ⟨rfl, R4, hM4, hk2.trans hk4⟩
theorem operate_21 (h : MC xb wb wc W Q w m fuel limit waits R vi) {v : Int} (hv : m.stack.getLast? = some v) (hbig : m.stack.length <= 1000000) :
  Calls Tryz.prog 113 #[.pointer (some ⟨xb, 0, none⟩), .int .i64 21] w (MPo xb wb wc W Q fuel limit waits R w (.tuple #[]) { m with stack := m.stack.dropLast ++ [truthV (v != 0)] } vi) := by
 have HO := pop_any h hv hbig
 have hl : m.stack.dropLast.length <= 1000000 := by rw [List.length_dropLast]; omega
 have HP : ∀ W2 R2, MC xb wb wc W Q W2 { m with stack := m.stack.dropLast } fuel limit waits R2 vi -> Calls Tryz.prog 105 #[.pointer (some ⟨xb, 0, none⟩), .int .i32 (truthV (v != 0))] W2 (MPo xb wb wc W Q fuel limit waits R2 W2 (.tuple #[]) { m with stack := m.stack.dropLast ++ [truthV (v != 0)] } vi) := fun W2 R2 hM => push_any hM (truthV_rng (v != 0)) hl
 have HT := fun W => mtruth_any (v != 0) W
 unfold MPo at HO HP
 generalize hbv : (v != 0) = bv at *
 clear hv
 go_enter Tryz.func113, Tryz.ntmps113
 go_wp2_with (first
  | (go_at_call 106; refine HO.mono ?_; rintro e w2 ⟨rfl, R2, hM2, hk2⟩)
  | (go_at_call 134; refine (HT _).mono ?_; rintro e w3 ⟨rfl, h9⟩; cases h9)
  | (go_at_call 105; refine (HP _ _ hM2).mono ?_; rintro e w4 ⟨rfl, R4, hM4, hk4⟩))
 go_end0
 exact ⟨rfl, R4, hM4, hk2.trans hk4⟩
theorem operate_two (h : MC xb wb wc W Q w m fuel limit waits R vi) {x y : Int} (hy : m.stack.getLast? = some y) (hx : m.stack.dropLast.getLast? = some x) (hbig : m.stack.length <= 1000000) {op : Nat} (h1 : 10 <= op) (h2 : op <= 18) :
  Calls Tryz.prog 113 #[.pointer (some ⟨xb, 0, none⟩), .int .i64 (op : Nat)] w (MPo xb wb wc W Q fuel limit waits R w (.tuple #[]) (joinM { m with stack := m.stack.dropLast.dropLast } op x y) vi) := by
 have hry := rng_last h.rows.rs hy
 have HO := pop_any h hy hbig
 have hl : m.stack.dropLast.length <= 1000000 := by rw [List.length_dropLast]; omega
 have hl2 : m.stack.dropLast.dropLast.length <= 1000000 := by rw [List.length_dropLast]; omega
 have HO2 : ∀ W2 R2, MC xb wb wc W Q W2 { m with stack := m.stack.dropLast } fuel limit waits R2 vi -> Calls Tryz.prog 106 #[.pointer (some ⟨xb, 0, none⟩)] W2 (MPo xb wb wc W Q fuel limit waits R2 W2 (.int .i32 x) { m with stack := m.stack.dropLast.dropLast } vi) := fun W2 R2 hM => pop_any hM hx hl
 have HJ := fun W2 R2 (hM : MC xb wb wc W Q W2 { m with stack := m.stack.dropLast.dropLast } fuel limit waits R2 vi) => mjoin_any hM x hry hl2 h1 h2
 unfold MPo at HO HO2 HJ
 have e19 : ((op : Int) == 19) = false := by simp; omega
 have e20 : ((op : Int) == 20) = false := by simp; omega
 have e21 : ((op : Int) == 21) = false := by simp; omega
 clear hx hy hry
 generalize joinM { m with stack := m.stack.dropLast.dropLast } op x y = m9 at *
 generalize hm2 : ({ m with stack := m.stack.dropLast.dropLast } : MS) = m2 at *
 generalize hm1 : ({ m with stack := m.stack.dropLast } : MS) = m1 at *
 clear hm1 hm2
 go_enter Tryz.func113, Tryz.ntmps113
 go_wp2_with (first
  | (go_at_call 106; have _q := hM2; refine (HO2 _ _ hM2).mono ?_; rintro e w3 ⟨rfl, R3, hM3, hk3⟩)
  | (go_at_call 106; refine HO.mono ?_; rintro e w2 ⟨rfl, R2, hM2, hk2⟩)
  | (go_at_call 135; refine (HJ _ _ hM3).mono ?_; rintro e w4 ⟨rfl, R4, hM4, hk4⟩))
 go_end0
 exact ⟨rfl, R4, hM4, hk2.trans (hk3.trans hk4)⟩
end
section
variable {xb wb wc fuel limit : Nat} {W : List Nat} {Q : Nat -> Prop} {w w' w1 : World} {m : MS} {waits : Bool} {R : MR} {vi : Value}
def StPo (xb wb wc : Nat) (W : List Nat) (Q : Nat -> Prop) (fuel limit : Nat) (waits : Bool) (R : MR) (w : World) (m' : MS) (e : Ending) (w' : World) : Prop :=
 e = .returned (.tuple #[]) /\ ∃ R' vi', MC xb wb wc W Q w' m' fuel limit waits R' vi' /\ MM xb R R' w w'
theorem part_same (h : MC xb wb wc W Q w m fuel limit waits R vi) {x : Nat} (hx : W[m.pc]? = some x) (hW : W.length <= 1000000) :
  Calls Tryz.prog 102 #[.pointer (some ⟨xb, 0, none⟩)] w fun e w' => e = .returned (.int .i64 (x : Nat)) /\ MC xb wb wc W Q w' { m with pc := m.pc + 1 } fuel limit waits R vi /\ MM xb R R w w' := by
 have hlt : m.pc < W.length := (List.getElem?_eq_some_iff.1 hx).1
 have hc0 := h.wdAt
 have hc1 := h.pcAt
 have hcw := h.rows.wds m.pc x hx
 have hz := h.frz 1
 have HB : Hid (MC xb wb wc W Q w.drew m fuel limit waits R vi) := h.below (Below.refl _ _).drew
 have hli : (m.pc : Int) < (W.length : Nat) := by omega
 go_enter Tryz.func102, Tryz.ntmps102
 go_wp2
 go_region
 all_goals go_wp2
 all_goals go_ret
 all_goals refine ⟨rfl, (HB.out.setPc (m.pc + 1)).1, (MM.of_below (Below.refl _ _).drew).trans (HB.out.setPc (m.pc + 1)).2⟩
theorem pop_same (h : MC xb wb wc W Q w m fuel limit waits R vi) {x : Int} (hx : m.stack.getLast? = some x) (hbig : m.stack.length <= 1000000) :
  Calls Tryz.prog 106 #[.pointer (some ⟨xb, 0, none⟩)] w fun e w' => e = .returned (.int .i32 x) /\ ∃ R', R'.pl = R.pl /\ MC xb wb wc W Q w' { m with stack := m.stack.dropLast } fuel limit waits R' vi /\ MM xb R R' w w' := by
 have hne : m.stack ≠ [] := fun e => by rw [e] at hx; cases hx
 have hpos : 0 < m.stack.length := List.length_pos_iff.2 hne
 obtain ⟨g, cap, hv, _, hgl⟩ := h.rows.st.form hpos
 obtain ⟨k, hk⟩ : ∃ k, m.stack.length = k + 1 := ⟨m.stack.length - 1, by omega⟩
 have hst := h.stAt
 have hz := h.frz 3
 have hown := h.rows.st
 have hcell : w.cell? ⟨g, k, none⟩ = some (.int .i32 x) := by
  rw [hv] at hown
  rw [hown.cellAt k (by omega), List.getElem?_map]
  have : m.stack[k]? = some x := by rw [List.getLast?_eq_getElem?] at hx; rw [<- hx]; congr 1; omega
  rw [this]; rfl
 have HC := h.stackCut hv (k := k) (by omega)
 have hdl : m.stack.take k = m.stack.dropLast := by rw [List.dropLast_eq_take]; congr 1; omega
 rw [hdl] at HC
 have HC2 : Hid _ := HC
 have hcap : k + 1 <= cap := by
  rcases hown.2 with ⟨e, e2⟩ | ⟨g', cap', cur, e, _, _, hle, _⟩
  ·omega
  ·rw [hv] at e; injection e with e1 e2 e3; omega
 rw [hv, hk] at hst
 have hkb : k <= 1000000 := by omega
 clear hown HC hdl hv hpos hne
 go_enter Tryz.func106, Tryz.ntmps106
 go_wp2
 go_ret
 exact ⟨rfl, { R with st := .slice (some ⟨g, 0, none⟩) k cap }, rfl, HC2.out.1, HC2.out.2⟩
theorem step_end (h : MC xb wb wc W Q w m fuel limit waits R vi) (hW : W.length <= 1000000) (hop : W[m.pc]? = some 0) :
  Calls Tryz.prog 73 #[.pointer (some ⟨xb, 0, none⟩)] w (StPo xb wb wc W Q fuel limit waits R w (({ m with pc := m.pc + 1 } : MS).end_ 0) ) := by
 have H1 := part_same h hop hW
 have H2 := fun W1 (hM : MC xb wb wc W Q W1 { m with pc := m.pc + 1 } fuel limit waits R vi) => mend_any hM 0
 unfold MPo at H2
 go_enter Tryz.func73, Tryz.ntmps73
 go_wp2_with (first
  | (go_at_call 102; refine H1.mono ?_; rintro e w1 ⟨rfl, hM1, hk1⟩)
  | (go_at_call 103; refine (H2 _ hM1).mono ?_; rintro e w2 ⟨rfl, R2, hM2, hk2⟩))
 go_end0
 exact ⟨rfl, R2, vi, hM2, hk1.trans hk2⟩
theorem step_push' (h : MC xb wb wc W Q w m fuel limit waits R vi) (hW : W.length <= 1000000) (hb : m.stack.length <= 1000000) (hop : W[m.pc]? = some 2) {v : Nat} (hv : W[m.pc + 1]? = some v) :
  Calls Tryz.prog 73 #[.pointer (some ⟨xb, 0, none⟩)] w (StPo xb wb wc W Q fuel limit waits R w (({ m with pc := m.pc + 2 } : MS).push (wrapV (v : Int)))) := by
 have H1 := part_same h hop hW
 have H2 := fun W1 (hM : MC xb wb wc W Q W1 { m with pc := m.pc + 1 } fuel limit waits R vi) => part_same hM hv hW
 have H3 := fun W1 (hM : MC xb wb wc W Q W1 { m with pc := m.pc + 1 + 1 } fuel limit waits R vi) => push_any hM (wrapV_rng (v : Int)) hb
 have hw := i32_wrap (v : Int)
 unfold MPo at H3
 go_enter Tryz.func73, Tryz.ntmps73
 go_wp2_with (first
  | (go_at_call 102; have _q := hM1; refine (H2 _ hM1).mono ?_; rintro e w2 ⟨rfl, hM2, hk2⟩)
  | (go_at_call 102; refine H1.mono ?_; rintro e w1 ⟨rfl, hM1, hk1⟩)
  | (go_at_call 105; refine (H3 _ hM2).mono ?_; rintro e w3 ⟨rfl, R3, hM3, hk3⟩))
 go_end0
 exact ⟨rfl, R3, vi, hM3, hk1.trans (hk2.trans hk3)⟩
theorem MC.plCell (h : MC xb wb wc W Q w m fuel limit waits R vi) {a : Nat} {v : Int} (hv : m.places[a]? = some v) : ∃ g cap, R.pl = .slice (some ⟨g, 0, none⟩) m.places.length cap /\ a < m.places.length := by
 have hl : a < m.places.length := (List.getElem?_eq_some_iff.1 hv).1
 obtain ⟨g, cap, he, _, _⟩ := h.rows.pl.form (by omega)
 exact ⟨g, cap, he, hl⟩
theorem MC.plVal (h : MC xb wb wc W Q w m fuel limit waits R vi) {a g cap : Nat} {v : Int} (hv : m.places[a]? = some v) (he : R.pl = .slice (some ⟨g, 0, none⟩) m.places.length cap) : w.cell? ⟨g, a, none⟩ = some (.int .i32 v) /\ w.frozen? ⟨g, a, none⟩ = false := by
 have hl : a < m.places.length := (List.getElem?_eq_some_iff.1 hv).1
 have ho := h.rows.pl
 rw [he] at ho
 refine ⟨?_, ho.frozenAt a⟩
 rw [ho.cellAt a (by omega), List.getElem?_map, hv]; rfl
theorem MC.stVal (h : MC xb wb wc W Q w m fuel limit waits R vi) {a g cap : Nat} {v : Int} (hv : m.stack[a]? = some v) (he : R.st = .slice (some ⟨g, 0, none⟩) m.stack.length cap) : w.cell? ⟨g, a, none⟩ = some (.int .i32 v) /\ w.frozen? ⟨g, a, none⟩ = false := by
 have hl : a < m.stack.length := (List.getElem?_eq_some_iff.1 hv).1
 have ho := h.rows.st
 rw [he] at ho
 refine ⟨?_, ho.frozenAt a⟩
 rw [ho.cellAt a (by omega), List.getElem?_map, hv]; rfl
theorem step_get (h : MC xb wb wc W Q w m fuel limit waits R vi) (hW : W.length <= 1000000) (hb : m.stack.length <= 1000000) (hop : W[m.pc]? = some 3) {a : Nat} {v : Int} (ha : W[m.pc + 1]? = some a) (hv : m.places[a]? = some v) :
  Calls Tryz.prog 73 #[.pointer (some ⟨xb, 0, none⟩)] w (StPo xb wb wc W Q fuel limit waits R w (({ m with pc := m.pc + 2 } : MS).push v)) := by
 obtain ⟨g, cap, he, hal⟩ := h.plCell hv
 have hrv := h.rows.rp v (List.mem_of_getElem? hv)
 have H1 := part_same h hop hW
 have H2 := fun W1 (hM : MC xb wb wc W Q W1 { m with pc := m.pc + 1 } fuel limit waits R vi) => part_same (hM.below (Below.refl _ _).drew) ha hW
 have H3 := fun W1 (hM : MC xb wb wc W Q W1 { m with pc := m.pc + 1 + 1 } fuel limit waits R vi) => push_any hM hrv hb
 have HP1 : ∀ W1, MC xb wb wc W Q W1 { m with pc := m.pc + 1 } fuel limit waits R vi -> W1.cell? ⟨xb, 2, none⟩ = some (.slice (some ⟨g, 0, none⟩) m.places.length cap) := fun W1 hM => hM.plAt.trans (by rw [he])
 have HP2 : ∀ W1, MC xb wb wc W Q W1 { m with pc := m.pc + 1 + 1 } fuel limit waits R vi -> W1.cell? ⟨xb, 2, none⟩ = some (.slice (some ⟨g, 0, none⟩) m.places.length cap) /\ W1.cell? ⟨g, a, none⟩ = some (.int .i32 v) := fun W1 hM => ⟨hM.plAt.trans (by rw [he]), (hM.plVal hv he).1⟩
 unfold MPo at H3
 have hali : (a : Int) < (m.places.length : Int) := by omega
 clear he hv ha hop hrv
 generalize m.places.length = pln at *
 go_enter Tryz.func73, Tryz.ntmps73
 go_wp2_with (go_at_call 102; refine H1.mono ?_; rintro e w1 ⟨rfl, hM1, hk1⟩; have p1 := HP1 _ hM1; have H2' := H2 _ hM1)
 go_region_with (first
  | (go_at_call 102; refine H2'.mono ?_; rintro e w2 ⟨rfl, hM2, hk2⟩; obtain ⟨p2, p3⟩ := HP2 _ hM2)
  | (go_at_call 105; refine (H3 _ hM2).mono ?_; rintro e w3 ⟨rfl, R3, hM3, hk3⟩))
 all_goals go_wp2
 all_goals go_end0
 all_goals exact ⟨rfl, R3, vi, hM3, hk1.trans ((MM.of_below (Below.refl _ _).drew).trans (hk2.trans hk3))⟩
end
end Go.Proofs.YtklobognaldjpaaGreat
