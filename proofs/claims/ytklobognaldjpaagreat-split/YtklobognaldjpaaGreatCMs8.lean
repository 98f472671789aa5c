/- The machine: a place gets a value. The machine: the value of a place in the frame. The machine: a place in the frame gets a value. The machine: the value of a place. The machine: a place that is looke -/
import Derived.Test.YtklobognaldjpaaGreatCMc8
import Derived.Test.YtklobognaldjpaaGreatCAz1
set_option maxRecDepth 1000000
set_option maxHeartbeats 2000000
namespace Go.Proofs.YtklobognaldjpaaGreat
open Go.RowKit
section
variable {xb wb wc fuel limit : Nat} {W : List Nat} {Q : Nat -> Prop} {w w' w1 : World} {m : MS} {waits : Bool} {R : MR} {vi : Value}
theorem step_set (h : MC xb wb wc W Q w m fuel limit waits R vi) (hW : W.length <= 1000000) (hb : m.stack.length <= 1000000) (hop : W[m.pc]? = some 4) {a : Nat} {x : Int} (ha : W[m.pc + 1]? = some a) (hx : m.stack.getLast? = some x) (hal : a < m.places.length) :
  Calls Tryz.prog 73 #[.pointer (some ⟨xb, 0, none⟩)] w (StPo xb wb wc W Q fuel limit waits R w { m with pc := m.pc + 2, stack := m.stack.dropLast, places := m.places.set a x }) := by
 have hrx := rng_last h.rows.rs hx
 obtain ⟨g, cap, he, _⟩ := h.plCell (List.getElem?_eq_getElem hal)
 have H1 := part_same h hop hW
 have H2 := fun W1 (hM : MC xb wb wc W Q W1 { m with pc := m.pc + 1 } fuel limit waits R vi) => part_same (hM.below (Below.refl _ _).drew) ha hW
 have H3 : ∀ W1, MC xb wb wc W Q W1 { m with pc := m.pc + 1 + 1 } fuel limit waits R vi -> Calls Tryz.prog 106 #[.pointer (some ⟨xb, 0, none⟩)] W1 fun e w' => e = .returned (.int .i32 x) /\ ∃ R', R'.pl = R.pl /\ MC xb wb wc W Q w' { m with pc := m.pc + 2, stack := m.stack.dropLast } fuel limit waits R' vi /\ MM xb R R' W1 w' := fun W1 hM => pop_same hM hx hb
 have HP1 : ∀ W1, MC xb wb wc W Q W1 { m with pc := m.pc + 1 } fuel limit waits R vi -> W1.cell? ⟨xb, 2, none⟩ = some (.slice (some ⟨g, 0, none⟩) m.places.length cap) := fun W1 hM => hM.plAt.trans (by rw [he])
 have HP2 : ∀ W1, MC xb wb wc W Q W1 { m with pc := m.pc + 1 + 1 } fuel limit waits R vi -> W1.cell? ⟨xb, 2, none⟩ = some (.slice (some ⟨g, 0, none⟩) m.places.length cap) := fun W1 hM => hM.plAt.trans (by rw [he])
 have HP3 : ∀ W1 R', R'.pl = R.pl -> MC xb wb wc W Q W1 { m with pc := m.pc + 2, stack := m.stack.dropLast } fuel limit waits R' vi -> W1.cell? ⟨xb, 2, none⟩ = some (.slice (some ⟨g, 0, none⟩) m.places.length cap) /\ W1.cell? ⟨g, a, none⟩ = some (.int .i32 m.places[a]) /\ W1.frozen? ⟨g, a, none⟩ = false /\ MC xb wb wc W Q (W1.setCell ⟨g, a, none⟩ (.int .i32 x)) { m with pc := m.pc + 2, stack := m.stack.dropLast, places := m.places.set a x } fuel limit waits R' vi /\ MM xb R' R' W1 (W1.setCell ⟨g, a, none⟩ (.int .i32 x)) := fun W1 R' hR hM => by
  have he' : R'.pl = .slice (some ⟨g, 0, none⟩) m.places.length cap := by rw [hR, he]
  have t := hM.placeTo he' a hrx
  exact ⟨hM.plAt.trans (by rw [he']), (hM.plVal (List.getElem?_eq_getElem hal) he').1, (hM.plVal (List.getElem?_eq_getElem hal) he').2, t.1, t.2⟩
 have hali : (a : Int) < (m.places.length : Int) := by omega
 clear he hx ha hop hrx
 generalize m.places[a] = old at *
 generalize hm9 : ({ m with pc := m.pc + 2, stack := m.stack.dropLast, places := m.places.set a x } : MS) = m9 at *
 generalize hm3 : ({ m with pc := m.pc + 2, stack := m.stack.dropLast } : MS) = m3 at *
 clear hm9 hm3
 generalize m.places.length = pln at *
 go_enter Tryz.func73, Tryz.ntmps73
 go_wp2_with (go_at_call 102; refine H1.mono ?_; rintro e w1 ⟨rfl, hM1, hk1⟩; have p1 := HP1 _ hM1; have H2' := H2 _ hM1)
 go_region_with (first
  | (go_at_call 102; refine H2'.mono ?_; rintro e w2 ⟨rfl, hM2, hk2⟩; have p2 := HP2 _ hM2)
  | (go_at_call 106; refine (H3 _ hM2).mono ?_; rintro e w3 ⟨rfl, R3, hR3, hM3, hk3⟩; obtain ⟨p3, p4, p5, p6, p7⟩ := HP3 _ _ hR3 hM3; clear hR3))
 all_goals go_wp2
 all_goals go_end0
 all_goals exact ⟨rfl, R3, vi, p6, hk1.trans ((MM.of_below (Below.refl _ _).drew).trans (hk2.trans (hk3.trans p7)))⟩
end
section
variable {xb wb wc fuel limit : Nat} {W : List Nat} {Q : Nat -> Prop} {w w' w1 : World} {m : MS} {waits : Bool} {R : MR} {vi : Value}
theorem step_getl (h : MC xb wb wc W Q w m fuel limit waits R vi) (hW : W.length <= 1000000) (hb : m.stack.length <= 1000000) (hop : W[m.pc]? = some 5) {a : Nat} {v : Int} (ha : W[m.pc + 1]? = some a) (hv : m.stack[m.base + a]? = some v) :
  Calls Tryz.prog 73 #[.pointer (some ⟨xb, 0, none⟩)] w (StPo xb wb wc W Q fuel limit waits R w (({ m with pc := m.pc + 2 } : MS).push v)) := by
 have hal : m.base + a < m.stack.length := (List.getElem?_eq_some_iff.1 hv).1
 have hrv := h.rows.rs v (List.mem_of_getElem? hv)
 obtain ⟨g, cap, he, _, _⟩ := h.rows.st.form (by omega)
 have H1 := part_same h hop hW
 have H2 := fun W1 (hM : MC xb wb wc W Q W1 { m with pc := m.pc + 1 } fuel limit waits R vi) => part_same (hM.below (Below.refl _ _).drew) ha hW
 have H3 := fun W1 (hM : MC xb wb wc W Q W1 { m with pc := m.pc + 1 + 1 } fuel limit waits R vi) => push_any hM hrv hb
 have HP1 : ∀ W1, MC xb wb wc W Q W1 { m with pc := m.pc + 1 } fuel limit waits R vi -> W1.cell? ⟨xb, 3, none⟩ = some (.slice (some ⟨g, 0, none⟩) m.stack.length cap) /\ W1.cell? ⟨xb, 4, none⟩ = some (.int .i64 (m.base : Nat)) := fun W1 hM => ⟨hM.stAt.trans (by rw [he]), hM.baAt⟩
 have HP2 : ∀ W1, MC xb wb wc W Q W1 { m with pc := m.pc + 1 + 1 } fuel limit waits R vi -> W1.cell? ⟨xb, 3, none⟩ = some (.slice (some ⟨g, 0, none⟩) m.stack.length cap) /\ W1.cell? ⟨xb, 4, none⟩ = some (.int .i64 (m.base : Nat)) /\ W1.cell? ⟨g, m.base + a, none⟩ = some (.int .i32 v) := fun W1 hM => ⟨hM.stAt.trans (by rw [he]), hM.baAt, (hM.stVal hv he).1⟩
 unfold MPo at H3
 have hali : (m.base : Int) + (a : Int) < (m.stack.length : Int) := by omega
 clear he hv ha hop hrv
 generalize m.base = mba at *
 generalize m.stack.length = pln at *
 have hwr : IntKind.i64.wrap ((mba : Int) + (a : Int)) = ((mba + a : Nat) : Int) := by rw [IntKind.wrap_i64]; omega
 have hw0 : ((mba + a : Nat) : Int) < (pln : Int) := by omega
 go_enter Tryz.func73, Tryz.ntmps73
 go_wp2_with (go_at_call 102; refine H1.mono ?_; rintro e w1 ⟨rfl, hM1, hk1⟩; obtain ⟨p1, q1⟩ := HP1 _ hM1; have H2' := H2 _ hM1)
 go_region_with (first
  | (go_at_call 102; refine H2'.mono ?_; rintro e w2 ⟨rfl, hM2, hk2⟩; obtain ⟨p2, q2, p3⟩ := HP2 _ hM2)
  | (go_at_call 105; refine (H3 _ hM2).mono ?_; rintro e w3 ⟨rfl, R3, hM3, hk3⟩))
 all_goals go_wp2
 all_goals go_end0
 all_goals exact ⟨rfl, R3, vi, hM3, hk1.trans ((MM.of_below (Below.refl _ _).drew).trans (hk2.trans hk3))⟩
end
section
variable {xb wb wc fuel limit : Nat} {W : List Nat} {Q : Nat -> Prop} {w w' w1 : World} {m : MS} {waits : Bool} {R : MR} {vi : Value}
theorem step_setl (h : MC xb wb wc W Q w m fuel limit waits R vi) (hW : W.length <= 1000000) (hb : m.stack.length <= 1000000) (hop : W[m.pc]? = some 6) {a : Nat} {x : Int} (ha : W[m.pc + 1]? = some a) (hx : m.stack.getLast? = some x) (hal : m.base + a < m.stack.dropLast.length) :
  Calls Tryz.prog 73 #[.pointer (some ⟨xb, 0, none⟩)] w (StPo xb wb wc W Q fuel limit waits R w { m with pc := m.pc + 2, stack := m.stack.dropLast.set (m.base + a) x }) := by
 have hrx := rng_last h.rows.rs hx
 have hlb : m.stack.dropLast.length <= 1000000 := by rw [List.length_dropLast]; omega
 have H1 := part_same h hop hW
 have H2 : ∀ W1, MC xb wb wc W Q W1 { m with pc := m.pc + 1 } fuel limit waits R vi -> Calls Tryz.prog 106 #[.pointer (some ⟨xb, 0, none⟩)] W1 (MPo xb wb wc W Q fuel limit waits R W1 (.int .i32 x) { m with pc := m.pc + 1, stack := m.stack.dropLast } vi) := fun W1 hM => pop_any hM hx hb
 have H3 : ∀ W1 R1, MC xb wb wc W Q W1 { m with pc := m.pc + 1, stack := m.stack.dropLast } fuel limit waits R1 vi -> Calls Tryz.prog 102 #[.pointer (some ⟨xb, 0, none⟩)] W1.drew fun e w' => e = .returned (.int .i64 (a : Nat)) /\ MC xb wb wc W Q w' { m with pc := m.pc + 2, stack := m.stack.dropLast } fuel limit waits R1 vi /\ MM xb R1 R1 W1.drew w' := fun W1 R1 hM => part_same (hM.below (Below.refl _ _).drew) ha hW
 have HP1 : ∀ W1 R1, MC xb wb wc W Q W1 { m with pc := m.pc + 1, stack := m.stack.dropLast } fuel limit waits R1 vi -> ∃ g cap, R1.st = .slice (some ⟨g, 0, none⟩) m.stack.dropLast.length cap /\ W1.cell? ⟨xb, 3, none⟩ = some (.slice (some ⟨g, 0, none⟩) m.stack.dropLast.length cap) /\ W1.cell? ⟨xb, 4, none⟩ = some (.int .i64 (m.base : Nat)) := fun W1 R1 hM => by
  obtain ⟨g, cap, he, _, _⟩ := hM.rows.st.form (by simp only; omega)
  exact ⟨g, cap, he, hM.stAt.trans (by rw [he]), hM.baAt⟩
 have HP2 : ∀ W1 R1 g cap, R1.st = .slice (some ⟨g, 0, none⟩) m.stack.dropLast.length cap -> MC xb wb wc W Q W1 { m with pc := m.pc + 2, stack := m.stack.dropLast } fuel limit waits R1 vi -> W1.cell? ⟨xb, 3, none⟩ = some (.slice (some ⟨g, 0, none⟩) m.stack.dropLast.length cap) /\ W1.cell? ⟨xb, 4, none⟩ = some (.int .i64 (m.base : Nat)) /\ W1.cell? ⟨g, m.base + a, none⟩ = some (.int .i32 m.stack.dropLast[m.base + a]) /\ W1.frozen? ⟨g, m.base + a, none⟩ = false /\ MC xb wb wc W Q (W1.setCell ⟨g, m.base + a, none⟩ (.int .i32 x)) { m with pc := m.pc + 2, stack := m.stack.dropLast.set (m.base + a) x } fuel limit waits R1 vi /\ MM xb R1 R1 W1 (W1.setCell ⟨g, m.base + a, none⟩ (.int .i32 x)) := fun W1 R1 g cap he hM => by
  have t := hM.slotTo he (m.base + a) hrx
  have hv := hM.stVal (List.getElem?_eq_getElem hal) he
  exact ⟨hM.stAt.trans (by rw [he]), hM.baAt, hv.1, hv.2, t.1, t.2⟩
 unfold MPo at H2
 have hali : (m.base : Int) + (a : Int) < (m.stack.dropLast.length : Int) := by omega
 have HPP2 : Hid _ := HP2
 clear hx ha hop hrx HP2
 generalize m.stack.dropLast[m.base + a] = old at *
 generalize hm9 : ({ m with pc := m.pc + 2, stack := m.stack.dropLast.set (m.base + a) x } : MS) = m9 at *
 generalize hm3 : ({ m with pc := m.pc + 2, stack := m.stack.dropLast } : MS) = m3 at *
 generalize hm2 : ({ m with pc := m.pc + 1, stack := m.stack.dropLast } : MS) = m2 at *
 clear hm9 hm3 hm2
 generalize m.base = mba at *
 generalize m.stack.dropLast.length = pln at *
 have hwr : IntKind.i64.wrap ((mba : Int) + (a : Int)) = ((mba + a : Nat) : Int) := by rw [IntKind.wrap_i64]; omega
 have hw0 : ((mba + a : Nat) : Int) < (pln : Int) := by omega
 go_enter Tryz.func73, Tryz.ntmps73
 go_wp2_with (first
  | (go_at_call 102; refine H1.mono ?_; rintro e w1 ⟨rfl, hM1, hk1⟩)
  | (go_at_call 106; refine (H2 _ hM1).mono ?_; rintro e w2 ⟨rfl, R2, hM2, hk2⟩; obtain ⟨g, cap, he, p1, q1⟩ := HP1 _ _ hM2; have HE : Hid _ := he; clear he; have H3' := H3 _ _ hM2))
 go_region_with (go_at_call 102; refine H3'.mono ?_; rintro e w3 ⟨rfl, hM3, hk3⟩; obtain ⟨p3, q3, p4, p5, p6, p7⟩ := HPP2.out _ _ _ _ HE.out hM3)
 all_goals go_wp2
 all_goals go_end0
 all_goals exact ⟨rfl, R2, vi, p6, hk1.trans (hk2.trans ((MM.of_below (Below.refl _ _).drew).trans (hk3.trans p7)))⟩
end
section
variable {xb wb wc fuel limit : Nat} {W : List Nat} {Q : Nat -> Prop} {w w' w1 : World} {m : MS} {waits : Bool} {R : MR} {vi : Value}
theorem step_getat (h : MC xb wb wc W Q w m fuel limit waits R vi) (hW : W.length <= 1000000) (hb : m.stack.length <= 1000000) (hop : W[m.pc]? = some 8) {k : Nat} {v : Int} (hx : m.stack.getLast? = some (k : Int)) (hv : m.places[k]? = some v) :
  Calls Tryz.prog 73 #[.pointer (some ⟨xb, 0, none⟩)] w (StPo xb wb wc W Q fuel limit waits R w { m with pc := m.pc + 1, stack := m.stack.dropLast ++ [v] }) := by
 obtain ⟨g, cap, he, hal⟩ := h.plCell hv
 have hrv := h.rows.rp v (List.mem_of_getElem? hv)
 have hlb : m.stack.dropLast.length <= 1000000 := by rw [List.length_dropLast]; omega
 have H1 := part_same h hop hW
 have H2 : ∀ W1, MC xb wb wc W Q W1 { m with pc := m.pc + 1 } fuel limit waits R vi -> Calls Tryz.prog 106 #[.pointer (some ⟨xb, 0, none⟩)] W1.drew fun e w' => e = .returned (.int .i32 (k : Nat)) /\ ∃ R', R'.pl = R.pl /\ MC xb wb wc W Q w' { m with pc := m.pc + 1, stack := m.stack.dropLast } fuel limit waits R' vi /\ MM xb R R' W1.drew w' := fun W1 hM => pop_same (hM.below (Below.refl _ _).drew) hx hb
 have H3 : ∀ W1 R1, MC xb wb wc W Q W1 { m with pc := m.pc + 1, stack := m.stack.dropLast } fuel limit waits R1 vi -> Calls Tryz.prog 105 #[.pointer (some ⟨xb, 0, none⟩), .int .i32 v] W1 (MPo xb wb wc W Q fuel limit waits R1 W1 (.tuple #[]) { m with pc := m.pc + 1, stack := m.stack.dropLast ++ [v] } vi) := fun W1 R1 hM => push_any hM hrv hlb
 have HP1 : ∀ W1, MC xb wb wc W Q W1 { m with pc := m.pc + 1 } fuel limit waits R vi -> W1.cell? ⟨xb, 2, none⟩ = some (.slice (some ⟨g, 0, none⟩) m.places.length cap) := fun W1 hM => hM.plAt.trans (by rw [he])
 have HP2 : ∀ W1 R1, R1.pl = R.pl -> MC xb wb wc W Q W1 { m with pc := m.pc + 1, stack := m.stack.dropLast } fuel limit waits R1 vi -> W1.cell? ⟨xb, 2, none⟩ = some (.slice (some ⟨g, 0, none⟩) m.places.length cap) /\ W1.cell? ⟨g, k, none⟩ = some (.int .i32 v) := fun W1 R1 hR hM => ⟨hM.plAt.trans (by rw [hR, he]), (hM.plVal hv (by rw [hR, he])).1⟩
 unfold MPo at H3
 have hali : (k : Int) < (m.places.length : Int) := by omega
 clear he hv hx hop hrv
 generalize hm9 : ({ m with pc := m.pc + 1, stack := m.stack.dropLast ++ [v] } : MS) = m9 at *
 generalize hm3 : ({ m with pc := m.pc + 1, stack := m.stack.dropLast } : MS) = m3 at *
 clear hm9 hm3
 generalize m.places.length = pln at *
 go_enter Tryz.func73, Tryz.ntmps73
 go_wp2_with (go_at_call 102; refine H1.mono ?_; rintro e w1 ⟨rfl, hM1, hk1⟩; have p1 := HP1 _ hM1; have H2' := H2 _ hM1)
 go_region_with (first
  | (go_at_call 106; refine H2'.mono ?_; rintro e w2 ⟨rfl, R2, hR2, hM2, hk2⟩; obtain ⟨p2, p3⟩ := HP2 _ _ hR2 hM2; clear hR2)
  | (go_at_call 105; refine (H3 _ _ hM2).mono ?_; rintro e w3 ⟨rfl, R3, hM3, hk3⟩))
 all_goals go_wp2
 all_goals go_end0
 all_goals exact ⟨rfl, R3, vi, hM3, hk1.trans ((MM.of_below (Below.refl _ _).drew).trans (hk2.trans hk3))⟩
end
section
variable {xb wb wc fuel limit : Nat} {W : List Nat} {Q : Nat -> Prop} {w w' w1 : World} {m : MS} {waits : Bool} {R : MR} {vi : Value}
theorem step_setat (h : MC xb wb wc W Q w m fuel limit waits R vi) (hW : W.length <= 1000000) (hb : m.stack.length <= 1000000) (hop : W[m.pc]? = some 9) {k : Nat} {v : Int} (hv : m.stack.getLast? = some v) (hx : m.stack.dropLast.getLast? = some (k : Int)) (hal : k < m.places.length) :
  Calls Tryz.prog 73 #[.pointer (some ⟨xb, 0, none⟩)] w (StPo xb wb wc W Q fuel limit waits R w { m with pc := m.pc + 1, stack := m.stack.dropLast.dropLast, places := m.places.set k v }) := by
 have hrv := rng_last h.rows.rs hv
 obtain ⟨g, cap, he, _⟩ := h.plCell (List.getElem?_eq_getElem hal)
 have hlb : m.stack.dropLast.length <= 1000000 := by rw [List.length_dropLast]; omega
 have H1 := part_same h hop hW
 have H2 : ∀ W1, MC xb wb wc W Q W1 { m with pc := m.pc + 1 } fuel limit waits R vi -> Calls Tryz.prog 106 #[.pointer (some ⟨xb, 0, none⟩)] W1 fun e w' => e = .returned (.int .i32 v) /\ ∃ R', R'.pl = R.pl /\ MC xb wb wc W Q w' { m with pc := m.pc + 1, stack := m.stack.dropLast } fuel limit waits R' vi /\ MM xb R R' W1 w' := fun W1 hM => pop_same hM hv hb
 have H3 : ∀ W1 R1, MC xb wb wc W Q W1 { m with pc := m.pc + 1, stack := m.stack.dropLast } fuel limit waits R1 vi -> Calls Tryz.prog 106 #[.pointer (some ⟨xb, 0, none⟩)] W1.drew fun e w' => e = .returned (.int .i32 (k : Nat)) /\ ∃ R', R'.pl = R1.pl /\ MC xb wb wc W Q w' { m with pc := m.pc + 1, stack := m.stack.dropLast.dropLast } fuel limit waits R' vi /\ MM xb R1 R' W1.drew w' := fun W1 R1 hM => pop_same (hM.below (Below.refl _ _).drew) hx hlb
 have HP1 : ∀ (W1 : World) (R1 : MR), R1.pl = R.pl -> MC xb wb wc W Q W1 { m with pc := m.pc + 1, stack := m.stack.dropLast } fuel limit waits R1 vi -> W1.cell? ⟨xb, 2, none⟩ = some (.slice (some ⟨g, 0, none⟩) m.places.length cap) := fun W1 R1 hR hM => hM.plAt.trans (by rw [hR, he])
 have HP2 : ∀ (W1 : World) (R1 R' : MR), R1.pl = R.pl -> R'.pl = R1.pl -> MC xb wb wc W Q W1 { m with pc := m.pc + 1, stack := m.stack.dropLast.dropLast } fuel limit waits R' vi -> W1.cell? ⟨xb, 2, none⟩ = some (.slice (some ⟨g, 0, none⟩) m.places.length cap) /\ W1.cell? ⟨g, k, none⟩ = some (.int .i32 m.places[k]) /\ W1.frozen? ⟨g, k, none⟩ = false /\ MC xb wb wc W Q (W1.setCell ⟨g, k, none⟩ (.int .i32 v)) { m with pc := m.pc + 1, stack := m.stack.dropLast.dropLast, places := m.places.set k v } fuel limit waits R' vi /\ MM xb R' R' W1 (W1.setCell ⟨g, k, none⟩ (.int .i32 v)) := fun W1 R1 R' hR1 hR hM => by
  have he' : R'.pl = .slice (some ⟨g, 0, none⟩) m.places.length cap := by rw [hR, hR1, he]
  have t := hM.placeTo he' k hrv
  exact ⟨hM.plAt.trans (by rw [he']), (hM.plVal (List.getElem?_eq_getElem hal) he').1, (hM.plVal (List.getElem?_eq_getElem hal) he').2, t.1, t.2⟩
 have hali : (k : Int) < (m.places.length : Int) := by omega
 have HPP2 : Hid _ := HP2
 clear he hv hx hop hrv HP2
 generalize m.places[k] = old at *
 generalize hm9 : ({ m with pc := m.pc + 1, stack := m.stack.dropLast.dropLast, places := m.places.set k v } : MS) = m9 at *
 generalize hm3 : ({ m with pc := m.pc + 1, stack := m.stack.dropLast.dropLast } : MS) = m3 at *
 generalize hm2 : ({ m with pc := m.pc + 1, stack := m.stack.dropLast } : MS) = m2 at *
 clear hm9 hm3 hm2
 generalize m.places.length = pln at *
 go_enter Tryz.func73, Tryz.ntmps73
 go_wp2_with (first
  | (go_at_call 102; refine H1.mono ?_; rintro e w1 ⟨rfl, hM1, hk1⟩)
  | (go_at_call 106; refine (H2 _ hM1).mono ?_; rintro e w2 ⟨rfl, R2, hR2, hM2, hk2⟩; have HR2 : Hid _ := hR2; have p1 := HP1 _ _ hR2 hM2; clear hR2; have H3' := H3 _ _ hM2))
 go_region_with (go_at_call 106; refine H3'.mono ?_; rintro e w3 ⟨rfl, R3, hR3, hM3, hk3⟩; obtain ⟨p3, p4, p5, p6, p7⟩ := HPP2.out _ _ _ HR2.out hR3 hM3; clear hR3)
 all_goals go_wp2
 all_goals go_end0
 all_goals exact ⟨rfl, R3, vi, p6, hk1.trans (hk2.trans ((MM.of_below (Below.refl _ _).drew).trans (hk3.trans p7)))⟩
end
section
variable {xb wb wc fuel limit : Nat} {W : List Nat} {Q : Nat -> Prop} {w w' w1 : World} {m : MS} {waits : Bool} {R : MR} {vi : Value}
theorem step_leavewith (h : MC xb wb wc W Q w m fuel limit waits R vi) (hW : W.length <= 1000000) (hb : m.stack.length <= 1000000) (hop : W[m.pc]? = some 27) {a : Nat} {v : Int} (ha : W[m.pc + 1]? = some a) (hv : m.stack[m.base + a]? = some v) {f : Nat × Nat} (hc : m.calls.getLast? = some f) :
  Calls Tryz.prog 73 #[.pointer (some ⟨xb, 0, none⟩)] w (StPo xb wb wc W Q fuel limit waits R w { m with pc := f.1, base := f.2, calls := m.calls.dropLast, stack := m.stack.take m.base ++ [v] }) := by
 have hal : m.base + a < m.stack.length := (List.getElem?_eq_some_iff.1 hv).1
 have hrv := h.rows.rs v (List.mem_of_getElem? hv)
 obtain ⟨g, cap, he, _, _⟩ := h.rows.st.form (by omega)
 have hlb : (m.stack.take m.base).length <= 1000000 := by rw [List.length_take]; omega
 have H1 := part_same h hop hW
 have H2 := fun W1 (hM : MC xb wb wc W Q W1 { m with pc := m.pc + 1 } fuel limit waits R vi) => part_same (hM.below (Below.refl _ _).drew) ha hW
 have H3 : ∀ W1, MC xb wb wc W Q W1 { m with pc := m.pc + 1 + 1 } fuel limit waits R vi -> Calls Tryz.prog 110 #[.pointer (some ⟨xb, 0, none⟩)] W1 (MPo xb wb wc W Q fuel limit waits R W1 (.tuple #[]) { m with pc := f.1, base := f.2, calls := m.calls.dropLast, stack := m.stack.take m.base } vi) := fun W1 hM => leave_any hM hc (by simp only; omega) hb
 have H4 : ∀ W1 R1, MC xb wb wc W Q W1 { m with pc := f.1, base := f.2, calls := m.calls.dropLast, stack := m.stack.take m.base } fuel limit waits R1 vi -> Calls Tryz.prog 105 #[.pointer (some ⟨xb, 0, none⟩), .int .i32 v] W1 (MPo xb wb wc W Q fuel limit waits R1 W1 (.tuple #[]) { m with pc := f.1, base := f.2, calls := m.calls.dropLast, stack := m.stack.take m.base ++ [v] } vi) := fun W1 R1 hM => push_any hM hrv hlb
 have HP1 : ∀ W1, MC xb wb wc W Q W1 { m with pc := m.pc + 1 } fuel limit waits R vi -> W1.cell? ⟨xb, 3, none⟩ = some (.slice (some ⟨g, 0, none⟩) m.stack.length cap) /\ W1.cell? ⟨xb, 4, none⟩ = some (.int .i64 (m.base : Nat)) := fun W1 hM => ⟨hM.stAt.trans (by rw [he]), hM.baAt⟩
 have HP2 : ∀ W1, MC xb wb wc W Q W1 { m with pc := m.pc + 1 + 1 } fuel limit waits R vi -> W1.cell? ⟨xb, 3, none⟩ = some (.slice (some ⟨g, 0, none⟩) m.stack.length cap) /\ W1.cell? ⟨xb, 4, none⟩ = some (.int .i64 (m.base : Nat)) /\ W1.cell? ⟨g, m.base + a, none⟩ = some (.int .i32 v) := fun W1 hM => ⟨hM.stAt.trans (by rw [he]), hM.baAt, (hM.stVal hv he).1⟩
 unfold MPo at H3 H4
 have hali : (m.base : Int) + (a : Int) < (m.stack.length : Int) := by omega
 clear he hv ha hop hrv hc
 generalize hm9 : ({ m with pc := f.1, base := f.2, calls := m.calls.dropLast, stack := m.stack.take m.base ++ [v] } : MS) = m9 at *
 generalize hm3 : ({ m with pc := f.1, base := f.2, calls := m.calls.dropLast, stack := m.stack.take m.base } : MS) = m3 at *
 clear hm9 hm3
 generalize m.base = mba at *
 generalize m.stack.length = pln at *
 have hwr : IntKind.i64.wrap ((mba : Int) + (a : Int)) = ((mba + a : Nat) : Int) := by rw [IntKind.wrap_i64]; omega
 have hw0 : ((mba + a : Nat) : Int) < (pln : Int) := by omega
 go_enter Tryz.func73, Tryz.ntmps73
 go_wp2_with (go_at_call 102; refine H1.mono ?_; rintro e w1 ⟨rfl, hM1, hk1⟩; obtain ⟨p1, q1⟩ := HP1 _ hM1; have H2' := H2 _ hM1)
 go_region_with (go_at_call 102; refine H2'.mono ?_; rintro e w2 ⟨rfl, hM2, hk2⟩; obtain ⟨p2, q2, p3⟩ := HP2 _ hM2)
 all_goals go_wp2_with (first
  | (go_at_call 110; refine (H3 _ hM2).mono ?_; rintro e w3 ⟨rfl, R3, hM3, hk3⟩)
  | (go_at_call 105; refine (H4 _ _ hM3).mono ?_; rintro e w4 ⟨rfl, R4, hM4, hk4⟩))
 all_goals go_end0
 all_goals exact ⟨rfl, R4, vi, hM4, hk1.trans ((MM.of_below (Below.refl _ _).drew).trans (hk2.trans (hk3.trans hk4)))⟩
end
theorem step_append_run {P : Program} {ops : Array Oper} {o : Oper} {a : Act} {w : World} {K : Act -> World -> Prop} {Q : Exit -> Act -> World -> Prop} {E : Prop} (hgd : o.guard = none) (s x : Operand) (t tn : TypeId)
  (ho : o.op = .call { callee := .builtin .append, args := #[s, x], argTypes := #[t, tn] }) (vs vx : Value) (hs : a.eval s = vs) (hx : a.eval x = vx)
  (v' : Value) (w' : World) (hr : ∀ ty, (Builtin.append_ #[t, tn] ty #[vs, vx]).run P w = .ok v' w') (h : K (a.put o.dst v') w') :
  if Region.wanted o (yielded ops a.tmps) = true then Oper.wp P o a w K Q else E := by
 have hw : Region.wanted o (yielded ops a.tmps) = true := by simp [Region.wanted, hgd]
 rw [if_pos hw]
 exact Lib.wp_append_run w s x t tn ho vs vx hs hx v' w' (hr _) h
theorem rng_more {l : List Int} (h : Rng l) (n : Nat) : Rng (l ++ List.replicate n 0) := by
 intro v hv
 rcases List.mem_append.1 hv with h1 | h1
 ·exact h v h1
 ·rw [List.eq_of_mem_replicate h1]; omega
section
variable {xb wb wc fuel limit : Nat} {W : List Nat} {Q : Nat -> Prop} {w w' w1 : World} {m : MS} {waits : Bool} {R : MR} {vi : Value}
theorem MC.more0 (h : MC xb wb wc W Q w m fuel limit waits R vi) (n : Nat) (hb : m.stack.length + n <= 1000000) {sa : Option Addr} {sc : Nat} (hv : R.st = .slice sa m.stack.length sc) :
  ∃ va vc w3, (∀ ty, (Builtin.append_ #[129, 3] ty #[.slice sa m.stack.length sc, .int .i64 (n : Nat)]).run Tryz.prog w = .ok (.slice va (m.stack.length + n) vc) w3) /\ w3.cell? ⟨xb, 3, none⟩ = some (.slice sa m.stack.length sc) /\ w3.frozen? ⟨xb, 3, none⟩ = false /\
   MC xb wb wc W Q (w3.setCell ⟨xb, 3, none⟩ (.slice va (m.stack.length + n) vc)) { m with stack := m.stack ++ List.replicate n 0 } fuel limit waits { R with st := .slice va (m.stack.length + n) vc } vi /\ MM xb R { R with st := .slice va (m.stack.length + n) vc } w (w3.setCell ⟨xb, 3, none⟩ (.slice va (m.stack.length + n) vc)) := by
 obtain ⟨i0, hi, hz0, hz1, hz2⟩ := info_parts Tryz.infoI32
 have hown := h.rows.st
 rw [hv] at hown
 obtain ⟨v', w3, hr, ho, hg, hn⟩ := run_append_zeros_own (P := Tryz.prog) w 129 3 0 21 i0 (.int .i32 0) .i64 .i64 4 Tryz.underlying129 Tryz.underlying3 hi hz0 hz1 hz2 rfl rfl _ _ _ hown n (by unfold maxLen; omega) (by omega)
 obtain ⟨va, vc, rfl⟩ := owned_slice ho
 rw [<- hv] at hg hn
 obtain ⟨hcs, hfs⟩ := h.cellsG hg (fun e => h.rows.xr (.inr (.inl e)))
 have t := h.stackTo (s' := m.stack ++ List.replicate n 0) hg (by simpa using ho) hn (rng_more h.rows.rs n)
 exact ⟨va, vc, w3, fun _ => hr, (hcs 3 _ rfl).trans (by rw [hv]), hfs 3, t.1, t.2⟩
theorem step_enter (h : MC xb wb wc W Q w m fuel limit waits R vi) (hW : W.length <= 1000000) (hop : W[m.pc]? = some 25) {n : Nat} (hn : W[m.pc + 1]? = some n) (hb : m.stack.length + n <= 1000000) :
  Calls Tryz.prog 73 #[.pointer (some ⟨xb, 0, none⟩)] w (StPo xb wb wc W Q fuel limit waits R w { m with pc := m.pc + 2, stack := m.stack ++ List.replicate n 0 }) := by
 obtain ⟨sa, sc, he⟩ := owned_slice h.rows.st
 have H1 := part_same h hop hW
 have H2 := fun W1 (hM : MC xb wb wc W Q W1 { m with pc := m.pc + 1 } fuel limit waits R vi) => part_same (hM.below (Below.refl _ _).drew) hn hW
 have HP1 : ∀ W1, MC xb wb wc W Q W1 { m with pc := m.pc + 1 } fuel limit waits R vi -> W1.cell? ⟨xb, 3, none⟩ = some (.slice sa m.stack.length sc) := fun W1 hM => hM.stAt.trans (by rw [he])
 have HP2 : ∀ W1, MC xb wb wc W Q W1 { m with pc := m.pc + 1 + 1 } fuel limit waits R vi -> W1.cell? ⟨xb, 3, none⟩ = some (.slice sa m.stack.length sc) := fun W1 hM => hM.stAt.trans (by rw [he])
 have HZ : ∀ W1, MC xb wb wc W Q W1 { m with pc := m.pc + 1 + 1 } fuel limit waits R vi -> ∃ va vc w3, (∀ ty, (Builtin.append_ #[129, 3] ty #[.slice sa m.stack.length sc, .int .i64 (n : Nat)]).run Tryz.prog W1 = .ok (.slice va (m.stack.length + n) vc) w3) /\ w3.cell? ⟨xb, 3, none⟩ = some (.slice sa m.stack.length sc) /\ w3.frozen? ⟨xb, 3, none⟩ = false /\
   Hid (∃ R3, MC xb wb wc W Q (w3.setCell ⟨xb, 3, none⟩ (.slice va (m.stack.length + n) vc)) { m with pc := m.pc + 2, stack := m.stack ++ List.replicate n 0 } fuel limit waits R3 vi /\ MM xb R R3 W1 (w3.setCell ⟨xb, 3, none⟩ (.slice va (m.stack.length + n) vc))) := fun W1 hM => by
  obtain ⟨va, vc, w3, a1, a2, a3, a4, a5⟩ := hM.more0 n hb (by simp only; rw [he])
  exact ⟨va, vc, w3, a1, a2, a3, _, a4, a5⟩
 have HZZ : Hid _ := HZ
 clear he hn hop HZ
 generalize hm9 : ({ m with pc := m.pc + 2, stack := m.stack ++ List.replicate n 0 } : MS) = m9 at *
 clear hm9
 generalize m.stack.length = sl at *
 go_enter Tryz.func73, Tryz.ntmps73
 go_wp2_with (go_at_call 102; refine H1.mono ?_; rintro e w1 ⟨rfl, hM1, hk1⟩; have p1 := HP1 _ hM1; have H2' := H2 _ hM1)
 go_region_law (first
  | (refine step_append_run rfl _ _ _ _ (by rfl) _ _ (by rfl) (by rfl) _ _ HR ?_)
  | (go_simp; go_wp2_with (go_at_call 102; refine H2'.mono ?_; rintro e w2 ⟨rfl, hM2, hk2⟩; have p2 := HP2 _ hM2; obtain ⟨va, vc, w3, HR, p3, p4, HF⟩ := HZZ.out _ hM2)))
 all_goals go_wp2
 all_goals go_end0
 all_goals (obtain ⟨R3, f1, f2⟩ := HF.out; exact ⟨rfl, R3, vi, f1, hk1.trans ((MM.of_below (Below.refl _ _).drew).trans (hk2.trans f2))⟩)
end
end Go.Proofs.YtklobognaldjpaaGreat
