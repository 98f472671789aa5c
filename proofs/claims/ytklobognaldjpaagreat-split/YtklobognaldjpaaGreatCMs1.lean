/- The machine: steps that draw no order. -/
import Derived.Test.YtklobognaldjpaaGreatCMc8
set_option maxRecDepth 1000000
set_option maxHeartbeats 2000000
namespace Go.Proofs.YtklobognaldjpaaGreat
open Go.RowKit
section
variable {xb wb wc fuel limit : Nat} {W : List Nat} {Q : Nat -> Prop} {w w' w1 : World} {m : MS} {waits : Bool} {R : MR} {vi : Value}
theorem step_unit_end (h : MC xb wb wc W Q w m fuel limit waits R vi) (hW : W.length <= 1000000) (hop : W[m.pc]? = some 1) (hu : m.used = fuel) :
  Calls Tryz.prog 73 #[.pointer (some ⟨xb, 0, none⟩)] w (StPo xb wb wc W Q fuel limit waits R w (({ m with pc := m.pc + 1 } : MS).end_ 8)) := by
 have H1 := part_same h hop hW
 have H2 := fun W1 (hM : MC xb wb wc W Q W1 { m with pc := m.pc + 1 } fuel limit waits R vi) => unit_end hM hu
 unfold MPo at H2
 clear hu
 go_enter Tryz.func73, Tryz.ntmps73
 go_wp2_with (first
  | (go_at_call 102; refine H1.mono ?_; rintro e w1 ⟨rfl, hM1, hk1⟩)
  | (go_at_call 104; refine (H2 _ hM1).mono ?_; rintro e w2 ⟨rfl, R2, hM2, hk2⟩))
 go_end0
 exact ⟨rfl, R2, vi, hM2, hk1.trans hk2⟩
theorem step_unit_go (h : MC xb wb wc W Q w m fuel limit waits R vi) (hW : W.length <= 1000000) (hop : W[m.pc]? = some 1) (hu : m.used ≠ fuel) (hl : m.used ≠ limit) (hub : m.used <= 1000000) :
  Calls Tryz.prog 73 #[.pointer (some ⟨xb, 0, none⟩)] w (StPo xb wb wc W Q fuel limit waits R w ({ m with pc := m.pc + 1, used := m.used + 1 })) := by
 have H1 := part_same h hop hW
 have H2 := fun W1 (hM : MC xb wb wc W Q W1 { m with pc := m.pc + 1 } fuel limit waits R vi) => unit_go hM hu hl hub
 unfold MPo at H2
 clear hu
 go_enter Tryz.func73, Tryz.ntmps73
 go_wp2_with (first
  | (go_at_call 102; refine H1.mono ?_; rintro e w1 ⟨rfl, hM1, hk1⟩)
  | (go_at_call 104; refine (H2 _ hM1).mono ?_; rintro e w2 ⟨rfl, R2, hM2, hk2⟩))
 go_end0
 exact ⟨rfl, R2, vi, hM2, hk1.trans hk2⟩
theorem step_unit_wait (h : MC xb wb wc W Q w m fuel limit waits R vi) (hW : W.length <= 1000000) (hop : W[m.pc]? = some 1) (hu : m.used ≠ fuel) (hl : m.used = limit) :
  Calls Tryz.prog 73 #[.pointer (some ⟨xb, 0, none⟩)] w (StPo xb wb wc W Q fuel limit true R w (m)) := by
 have H1 := part_same h hop hW
 have hlt : m.pc < W.length := (List.getElem?_eq_some_iff.1 hop).1
 have H2 : ∀ W1, MC xb wb wc W Q W1 { m with pc := m.pc + 1 } fuel limit waits R vi -> Calls Tryz.prog 104 #[.pointer (some ⟨xb, 0, none⟩)] W1 (MPo xb wb wc W Q fuel limit true R W1 (.tuple #[]) m vi) := fun W1 hM => unit_wait hM hu hl (by simp) (by simp only; omega)
 unfold MPo at H2
 clear hu hl
 go_enter Tryz.func73, Tryz.ntmps73
 go_wp2_with (first
  | (go_at_call 102; refine H1.mono ?_; rintro e w1 ⟨rfl, hM1, hk1⟩)
  | (go_at_call 104; refine (H2 _ hM1).mono ?_; rintro e w2 ⟨rfl, R2, hM2, hk2⟩))
 go_end0
 exact ⟨rfl, R2, vi, hM2, hk1.trans hk2⟩
theorem step_jump2 (h : MC xb wb wc W Q w m fuel limit waits R vi) (hW : W.length <= 1000000) (hop : W[m.pc]? = some 22) {a : Nat} (ha : W[m.pc + 1]? = some a) :
  Calls Tryz.prog 73 #[.pointer (some ⟨xb, 0, none⟩)] w (StPo xb wb wc W Q fuel limit waits R w ({ m with pc := a })) := by
 have H1 := part_same h hop hW
 have H2 := fun W1 (hM : MC xb wb wc W Q W1 { m with pc := m.pc + 1 } fuel limit waits R vi) => part_same hM ha hW
 have HS : ∀ W1, MC xb wb wc W Q W1 { m with pc := m.pc + 1 + 1 } fuel limit waits R vi -> MC xb wb wc W Q (W1.setCell ⟨xb, 1, none⟩ (.int .i64 (a : Nat))) { m with pc := a } fuel limit waits R vi /\ MM xb R R W1 (W1.setCell ⟨xb, 1, none⟩ (.int .i64 (a : Nat))) := fun W1 hM => hM.setPc a
 clear ha hop
 go_enter Tryz.func73, Tryz.ntmps73
 go_wp2_with (first
  | (go_at_call 102; have _q := hM1; refine (H2 _ hM1).mono ?_; rintro e w2 ⟨rfl, hM2, hk2⟩; have c1 := hM2.pcAt; have z1 := hM2.frz 1; have HS2 : Hid _ := HS _ hM2)
  | (go_at_call 102; refine H1.mono ?_; rintro e w1 ⟨rfl, hM1, hk1⟩))
 go_end0
 exact ⟨rfl, R, vi, HS2.out.1, hk1.trans (hk2.trans HS2.out.2)⟩
theorem step_unless2 (h : MC xb wb wc W Q w m fuel limit waits R vi) (hW : W.length <= 1000000) (hb : m.stack.length <= 1000000) (hop : W[m.pc]? = some 23) {a : Nat} (ha : W[m.pc + 1]? = some a) {x : Int} (hx : m.stack.getLast? = some x) :
  Calls Tryz.prog 73 #[.pointer (some ⟨xb, 0, none⟩)] w (StPo xb wb wc W Q fuel limit waits R w (if x = 0 then { m with pc := a, stack := m.stack.dropLast } else { m with pc := m.pc + 2, stack := m.stack.dropLast })) := by
 have H1 := part_same h hop hW
 have H2 := fun W1 (hM : MC xb wb wc W Q W1 { m with pc := m.pc + 1 } fuel limit waits R vi) => part_same hM ha hW
 have H3 : ∀ W1, MC xb wb wc W Q W1 { m with pc := m.pc + 1 + 1 } fuel limit waits R vi -> Calls Tryz.prog 108 #[.pointer (some ⟨xb, 0, none⟩), .int .i64 (a : Nat)] W1 (MPo xb wb wc W Q fuel limit waits R W1 (.tuple #[]) (if x = 0 then { m with pc := a, stack := m.stack.dropLast } else { m with pc := m.pc + 2, stack := m.stack.dropLast }) vi) := fun W1 hM => unless_any hM hx hb a
 unfold MPo at H3
 clear ha hop hx
 generalize (if x = 0 then ({ m with pc := a, stack := m.stack.dropLast } : MS) else { m with pc := m.pc + 2, stack := m.stack.dropLast }) = m9 at *
 go_enter Tryz.func73, Tryz.ntmps73
 go_wp2_with (first
  | (go_at_call 102; have _q := hM1; refine (H2 _ hM1).mono ?_; rintro e w2 ⟨rfl, hM2, hk2⟩)
  | (go_at_call 102; refine H1.mono ?_; rintro e w1 ⟨rfl, hM1, hk1⟩)
  | (go_at_call 108; refine (H3 _ hM2).mono ?_; rintro e w3 ⟨rfl, R3, hM3, hk3⟩))
 go_end0
 exact ⟨rfl, R3, vi, hM3, hk1.trans (hk2.trans hk3)⟩
theorem step_find2 (h : MC xb wb wc W Q w m fuel limit waits R vi) (hW : W.length <= 1000000) (hb : m.stack.length <= 1000000) (hop : W[m.pc]? = some 7) {a n : Nat} (ha : W[m.pc + 1]? = some a) (hn : W[m.pc + 2]? = some n) (hal : a <= 2147483647) {x : Int} (hx : m.stack.getLast? = some x) :
  Calls Tryz.prog 73 #[.pointer (some ⟨xb, 0, none⟩)] w (StPo xb wb wc W Q fuel limit waits R w (if x < 0 ∨ (n : Int) <= x then ({ m with pc := m.pc + 3, stack := m.stack.dropLast } : MS).end_ 9 else { m with pc := m.pc + 3, stack := m.stack.dropLast ++ [wrapV (a + x)] })) := by
 have H1 := part_same h hop hW
 have H2 := fun W1 (hM : MC xb wb wc W Q W1 { m with pc := m.pc + 1 } fuel limit waits R vi) => part_same hM ha hW
 have H3 := fun W1 (hM : MC xb wb wc W Q W1 { m with pc := m.pc + 1 + 1 } fuel limit waits R vi) => part_same hM hn hW
 have H4 : ∀ W1, MC xb wb wc W Q W1 { m with pc := m.pc + 1 + 1 + 1 } fuel limit waits R vi -> Calls Tryz.prog 107 #[.pointer (some ⟨xb, 0, none⟩), .int .i64 (a : Nat), .int .i64 (n : Nat)] W1 (MPo xb wb wc W Q fuel limit waits R W1 (.tuple #[]) (if x < 0 ∨ (n : Int) <= x then ({ m with pc := m.pc + 3, stack := m.stack.dropLast } : MS).end_ 9 else { m with pc := m.pc + 3, stack := m.stack.dropLast ++ [wrapV (a + x)] }) vi) := fun W1 hM => mfind_any hM hx hb a n hal
 unfold MPo at H4
 clear ha hop hx hn
 generalize (if x < 0 ∨ (n : Int) <= x then ({ m with pc := m.pc + 3, stack := m.stack.dropLast } : MS).end_ 9 else { m with pc := m.pc + 3, stack := m.stack.dropLast ++ [wrapV (a + x)] } : MS) = m9 at *
 go_enter Tryz.func73, Tryz.ntmps73
 go_wp2_with (first
  | (go_at_call 102; have _q := hM2; refine (H3 _ hM2).mono ?_; rintro e w3 ⟨rfl, hM3, hk3⟩)
  | (go_at_call 102; have _q := hM1; refine (H2 _ hM1).mono ?_; rintro e w2 ⟨rfl, hM2, hk2⟩)
  | (go_at_call 102; refine H1.mono ?_; rintro e w1 ⟨rfl, hM1, hk1⟩)
  | (go_at_call 107; refine (H4 _ hM3).mono ?_; rintro e w4 ⟨rfl, R4, hM4, hk4⟩))
 go_end0
 exact ⟨rfl, R4, vi, hM4, hk1.trans (hk2.trans (hk3.trans hk4))⟩
theorem step_call_end (h : MC xb wb wc W Q w m fuel limit waits R vi) (hW : W.length <= 1000000) (hop : W[m.pc]? = some 24) {a n : Nat} (ha : W[m.pc + 1]? = some a) (hn : W[m.pc + 2]? = some n) (h30 : m.calls.length = 30) :
  Calls Tryz.prog 73 #[.pointer (some ⟨xb, 0, none⟩)] w (StPo xb wb wc W Q fuel limit waits R w (({ m with pc := m.pc + 3 } : MS).end_ 13)) := by
 have H1 := part_same h hop hW
 have H2 := fun W1 (hM : MC xb wb wc W Q W1 { m with pc := m.pc + 1 } fuel limit waits R vi) => part_same hM ha hW
 have H3 := fun W1 (hM : MC xb wb wc W Q W1 { m with pc := m.pc + 1 + 1 } fuel limit waits R vi) => part_same hM hn hW
 have H4 : ∀ W1, MC xb wb wc W Q W1 { m with pc := m.pc + 1 + 1 + 1 } fuel limit waits R vi -> Calls Tryz.prog 109 #[.pointer (some ⟨xb, 0, none⟩), .int .i64 (a : Nat), .int .i64 (n : Nat)] W1 (MPo xb wb wc W Q fuel limit waits R W1 (.tuple #[]) (({ m with pc := m.pc + 3 } : MS).end_ 13) vi) := fun W1 hM => mcall_end hM h30 a n
 unfold MPo at H4
 clear ha hop hn h30
 generalize (({ m with pc := m.pc + 3 } : MS).end_ 13 : MS) = m9 at *
 go_enter Tryz.func73, Tryz.ntmps73
 go_wp2_with (first
  | (go_at_call 102; have _q := hM2; refine (H3 _ hM2).mono ?_; rintro e w3 ⟨rfl, hM3, hk3⟩)
  | (go_at_call 102; have _q := hM1; refine (H2 _ hM1).mono ?_; rintro e w2 ⟨rfl, hM2, hk2⟩)
  | (go_at_call 102; refine H1.mono ?_; rintro e w1 ⟨rfl, hM1, hk1⟩)
  | (go_at_call 109; refine (H4 _ hM3).mono ?_; rintro e w4 ⟨rfl, R4, hM4, hk4⟩))
 go_end0
 exact ⟨rfl, R4, vi, hM4, hk1.trans (hk2.trans (hk3.trans hk4))⟩
theorem step_call_go (h : MC xb wb wc W Q w m fuel limit waits R vi) (hW : W.length <= 1000000) (hb : m.stack.length <= 1000000) (hop : W[m.pc]? = some 24) {a n : Nat} (ha : W[m.pc + 1]? = some a) (hn : W[m.pc + 2]? = some n) (h30 : m.calls.length ≠ 30) (hns : n <= m.stack.length) :
  Calls Tryz.prog 73 #[.pointer (some ⟨xb, 0, none⟩)] w (StPo xb wb wc W Q fuel limit waits R w ({ m with pc := a, calls := m.calls ++ [(m.pc + 3, m.base)], base := m.stack.length - n })) := by
 have H1 := part_same h hop hW
 have H2 := fun W1 (hM : MC xb wb wc W Q W1 { m with pc := m.pc + 1 } fuel limit waits R vi) => part_same hM ha hW
 have H3 := fun W1 (hM : MC xb wb wc W Q W1 { m with pc := m.pc + 1 + 1 } fuel limit waits R vi) => part_same hM hn hW
 have H4 : ∀ W1, MC xb wb wc W Q W1 { m with pc := m.pc + 1 + 1 + 1 } fuel limit waits R vi -> Calls Tryz.prog 109 #[.pointer (some ⟨xb, 0, none⟩), .int .i64 (a : Nat), .int .i64 (n : Nat)] W1 (MPo xb wb wc W Q fuel limit waits R W1 (.tuple #[]) ({ m with pc := a, calls := m.calls ++ [(m.pc + 3, m.base)], base := m.stack.length - n }) vi) := fun W1 hM => mcall_go hM h30 a n hns hb
 unfold MPo at H4
 clear ha hop hn h30
 generalize ({ m with pc := a, calls := m.calls ++ [(m.pc + 3, m.base)], base := m.stack.length - n } : MS) = m9 at *
 go_enter Tryz.func73, Tryz.ntmps73
 go_wp2_with (first
  | (go_at_call 102; have _q := hM2; refine (H3 _ hM2).mono ?_; rintro e w3 ⟨rfl, hM3, hk3⟩)
  | (go_at_call 102; have _q := hM1; refine (H2 _ hM1).mono ?_; rintro e w2 ⟨rfl, hM2, hk2⟩)
  | (go_at_call 102; refine H1.mono ?_; rintro e w1 ⟨rfl, hM1, hk1⟩)
  | (go_at_call 109; refine (H4 _ hM3).mono ?_; rintro e w4 ⟨rfl, R4, hM4, hk4⟩))
 go_end0
 exact ⟨rfl, R4, vi, hM4, hk1.trans (hk2.trans (hk3.trans hk4))⟩
theorem step_leave2 (h : MC xb wb wc W Q w m fuel limit waits R vi) (hW : W.length <= 1000000) (hb : m.stack.length <= 1000000) (hop : W[m.pc]? = some 26) {f : Nat × Nat} (hc : m.calls.getLast? = some f) (hbs : m.base <= m.stack.length) :
  Calls Tryz.prog 73 #[.pointer (some ⟨xb, 0, none⟩)] w (StPo xb wb wc W Q fuel limit waits R w ({ m with pc := f.1, base := f.2, calls := m.calls.dropLast, stack := m.stack.take m.base })) := by
 have H1 := part_same h hop hW
 have H2 : ∀ W1, MC xb wb wc W Q W1 { m with pc := m.pc + 1 } fuel limit waits R vi -> Calls Tryz.prog 110 #[.pointer (some ⟨xb, 0, none⟩)] W1 (MPo xb wb wc W Q fuel limit waits R W1 (.tuple #[]) { m with pc := f.1, base := f.2, calls := m.calls.dropLast, stack := m.stack.take m.base } vi) := fun W1 hM => leave_any hM hc hbs hb
 unfold MPo at H2
 clear hc hop
 generalize ({ m with pc := f.1, base := f.2, calls := m.calls.dropLast, stack := m.stack.take m.base } : MS) = m9 at *
 go_enter Tryz.func73, Tryz.ntmps73
 go_wp2_with (first
  | (go_at_call 102; refine H1.mono ?_; rintro e w1 ⟨rfl, hM1, hk1⟩)
  | (go_at_call 110; refine (H2 _ hM1).mono ?_; rintro e w2 ⟨rfl, R2, hM2, hk2⟩))
 go_end0
 exact ⟨rfl, R2, vi, hM2, hk1.trans hk2⟩
theorem step_write_end (h : MC xb wb wc W Q w m fuel limit waits R vi) (hW : W.length <= 1000000) (hb : m.stack.length <= 1000000) (hop : W[m.pc]? = some 28) {x : Int} (hx : m.stack.getLast? = some x) (h60 : m.out.length = 60) :
  Calls Tryz.prog 73 #[.pointer (some ⟨xb, 0, none⟩)] w (StPo xb wb wc W Q fuel limit waits R w (({ m with pc := m.pc + 1, stack := m.stack.dropLast } : MS).end_ 12)) := by
 have H1 := part_same h hop hW
 have hrx := rng_last h.rows.rs hx
 have H2 : ∀ W1, MC xb wb wc W Q W1 { m with pc := m.pc + 1 } fuel limit waits R vi -> Calls Tryz.prog 106 #[.pointer (some ⟨xb, 0, none⟩)] W1 (MPo xb wb wc W Q fuel limit waits R W1 (.int .i32 x) { m with pc := m.pc + 1, stack := m.stack.dropLast } vi) := fun W1 hM => pop_any hM hx hb
 have H3 : ∀ W1 R1, MC xb wb wc W Q W1 { m with pc := m.pc + 1, stack := m.stack.dropLast } fuel limit waits R1 vi -> Calls Tryz.prog 111 #[.pointer (some ⟨xb, 0, none⟩), .int .i32 x] W1 (MPo xb wb wc W Q fuel limit waits R1 W1 (.tuple #[]) (({ m with pc := m.pc + 1, stack := m.stack.dropLast } : MS).end_ 12) vi) := fun W1 R1 hM => write_end hM h60 x
 unfold MPo at H2 H3
 clear hx hop h60 hrx
 generalize (({ m with pc := m.pc + 1, stack := m.stack.dropLast } : MS).end_ 12 : MS) = m9 at *
 go_enter Tryz.func73, Tryz.ntmps73
 go_wp2_with (first
  | (go_at_call 102; refine H1.mono ?_; rintro e w1 ⟨rfl, hM1, hk1⟩)
  | (go_at_call 106; refine (H2 _ hM1).mono ?_; rintro e w2 ⟨rfl, R2, hM2, hk2⟩)
  | (go_at_call 111; refine (H3 _ _ hM2).mono ?_; rintro e w3 ⟨rfl, R3, hM3, hk3⟩))
 go_end0
 exact ⟨rfl, R3, vi, hM3, hk1.trans (hk2.trans hk3)⟩
theorem step_write_go (h : MC xb wb wc W Q w m fuel limit waits R vi) (hW : W.length <= 1000000) (hb : m.stack.length <= 1000000) (hop : W[m.pc]? = some 28) {x : Int} (hx : m.stack.getLast? = some x) (h60 : m.out.length ≠ 60) :
  Calls Tryz.prog 73 #[.pointer (some ⟨xb, 0, none⟩)] w (StPo xb wb wc W Q fuel limit waits R w ({ m with pc := m.pc + 1, stack := m.stack.dropLast, out := m.out ++ [x] })) := by
 have H1 := part_same h hop hW
 have hrx := rng_last h.rows.rs hx
 have H2 : ∀ W1, MC xb wb wc W Q W1 { m with pc := m.pc + 1 } fuel limit waits R vi -> Calls Tryz.prog 106 #[.pointer (some ⟨xb, 0, none⟩)] W1 (MPo xb wb wc W Q fuel limit waits R W1 (.int .i32 x) { m with pc := m.pc + 1, stack := m.stack.dropLast } vi) := fun W1 hM => pop_any hM hx hb
 have H3 : ∀ W1 R1, MC xb wb wc W Q W1 { m with pc := m.pc + 1, stack := m.stack.dropLast } fuel limit waits R1 vi -> Calls Tryz.prog 111 #[.pointer (some ⟨xb, 0, none⟩), .int .i32 x] W1 (MPo xb wb wc W Q fuel limit waits R1 W1 (.tuple #[]) ({ m with pc := m.pc + 1, stack := m.stack.dropLast, out := m.out ++ [x] }) vi) := fun W1 R1 hM => write_go hM h60 hrx
 unfold MPo at H2 H3
 clear hx hop h60 hrx
 generalize ({ m with pc := m.pc + 1, stack := m.stack.dropLast, out := m.out ++ [x] } : MS) = m9 at *
 go_enter Tryz.func73, Tryz.ntmps73
 go_wp2_with (first
  | (go_at_call 102; refine H1.mono ?_; rintro e w1 ⟨rfl, hM1, hk1⟩)
  | (go_at_call 106; refine (H2 _ hM1).mono ?_; rintro e w2 ⟨rfl, R2, hM2, hk2⟩)
  | (go_at_call 111; refine (H3 _ _ hM2).mono ?_; rintro e w3 ⟨rfl, R3, hM3, hk3⟩))
 go_end0
 exact ⟨rfl, R3, vi, hM3, hk1.trans (hk2.trans hk3)⟩
theorem step_read_end (h : MC xb wb wc W Q w m fuel limit waits R vi) (hW : W.length <= 1000000) (hop : W[m.pc]? = some 29) (h0 : m.input = []) :
  Calls Tryz.prog 73 #[.pointer (some ⟨xb, 0, none⟩)] w (StPo xb wb wc W Q fuel limit waits R w (({ m with pc := m.pc + 1 } : MS).end_ 11)) := by
 have H1 := part_same h hop hW
 have H2 := fun W1 (hM : MC xb wb wc W Q W1 { m with pc := m.pc + 1 } fuel limit waits R vi) => read_end hM h0
 unfold MPo at H2
 clear h0 hop
 go_enter Tryz.func73, Tryz.ntmps73
 go_wp2_with (first
  | (go_at_call 102; refine H1.mono ?_; rintro e w1 ⟨rfl, hM1, hk1⟩)
  | (go_at_call 112; refine (H2 _ hM1).mono ?_; rintro e w2 ⟨rfl, R2, hM2, hk2⟩))
 go_end0
 exact ⟨rfl, R2, vi, hM2, hk1.trans hk2⟩
theorem step_read_go (h : MC xb wb wc W Q w m fuel limit waits R vi) (hW : W.length <= 1000000) (hb : m.stack.length <= 1000000) (hop : W[m.pc]? = some 29) {x : Int} {r : List Int} (h0 : m.input = x :: r) :
  Calls Tryz.prog 73 #[.pointer (some ⟨xb, 0, none⟩)] w (StPo xb wb wc W Q fuel limit waits R w ({ m with pc := m.pc + 1, stack := m.stack ++ [x], input := r })) := by
 have H1 := part_same h hop hW
 have H2 := fun W1 (hM : MC xb wb wc W Q W1 { m with pc := m.pc + 1 } fuel limit waits R vi) => read_go hM h0 hb
 clear h0 hop
 go_enter Tryz.func73, Tryz.ntmps73
 go_wp2_with (first
  | (go_at_call 102; refine H1.mono ?_; rintro e w1 ⟨rfl, hM1, hk1⟩)
  | (go_at_call 112; refine (H2 _ hM1).mono ?_; rintro e w2 ⟨rfl, R2, vi2, hM2, hk2⟩))
 go_end0
 exact ⟨rfl, R2, vi2, hM2, hk1.trans hk2⟩
theorem step_op_19 (h : MC xb wb wc W Q w m fuel limit waits R vi) (hW : W.length <= 1000000) (hb : m.stack.length <= 1000000) (hop : W[m.pc]? = some 19) {v : Int} (hv : m.stack.getLast? = some v) :
  Calls Tryz.prog 73 #[.pointer (some ⟨xb, 0, none⟩)] w (StPo xb wb wc W Q fuel limit waits R w ({ m with pc := m.pc + 1, stack := m.stack.dropLast ++ [wrapV (-v)] })) := by
 have H1 := part_same h hop hW
 have H2 : ∀ W1, MC xb wb wc W Q W1 { m with pc := m.pc + 1 } fuel limit waits R vi -> Calls Tryz.prog 113 #[.pointer (some ⟨xb, 0, none⟩), .int .i64 19] W1 (MPo xb wb wc W Q fuel limit waits R W1 (.tuple #[]) { m with pc := m.pc + 1, stack := m.stack.dropLast ++ [wrapV (-v)] } vi) := fun W1 hM => operate_19 hM hv hb
 unfold MPo at H2
 clear hv hop
 generalize ({ m with pc := m.pc + 1, stack := m.stack.dropLast ++ [wrapV (-v)] } : MS) = m9 at *
 go_enter Tryz.func73, Tryz.ntmps73
 go_wp2_with (first
  | (go_at_call 102; refine H1.mono ?_; rintro e w1 ⟨rfl, hM1, hk1⟩)
  | (go_at_call 113; refine (H2 _ hM1).mono ?_; rintro e w2 ⟨rfl, R2, hM2, hk2⟩))
 go_end0
 exact ⟨rfl, R2, vi, hM2, hk1.trans hk2⟩
theorem step_op_20 (h : MC xb wb wc W Q w m fuel limit waits R vi) (hW : W.length <= 1000000) (hb : m.stack.length <= 1000000) (hop : W[m.pc]? = some 20) {v : Int} (hv : m.stack.getLast? = some v) :
  Calls Tryz.prog 73 #[.pointer (some ⟨xb, 0, none⟩)] w (StPo xb wb wc W Q fuel limit waits R w ({ m with pc := m.pc + 1, stack := m.stack.dropLast ++ [truthV (v == 0)] })) := by
 have H1 := part_same h hop hW
 have H2 : ∀ W1, MC xb wb wc W Q W1 { m with pc := m.pc + 1 } fuel limit waits R vi -> Calls Tryz.prog 113 #[.pointer (some ⟨xb, 0, none⟩), .int .i64 20] W1 (MPo xb wb wc W Q fuel limit waits R W1 (.tuple #[]) { m with pc := m.pc + 1, stack := m.stack.dropLast ++ [truthV (v == 0)] } vi) := fun W1 hM => operate_20 hM hv hb
 unfold MPo at H2
 clear hv hop
 generalize ({ m with pc := m.pc + 1, stack := m.stack.dropLast ++ [truthV (v == 0)] } : MS) = m9 at *
 go_enter Tryz.func73, Tryz.ntmps73
 go_wp2_with (first
  | (go_at_call 102; refine H1.mono ?_; rintro e w1 ⟨rfl, hM1, hk1⟩)
  | (go_at_call 113; refine (H2 _ hM1).mono ?_; rintro e w2 ⟨rfl, R2, hM2, hk2⟩))
 go_end0
 exact ⟨rfl, R2, vi, hM2, hk1.trans hk2⟩
theorem step_op_21 (h : MC xb wb wc W Q w m fuel limit waits R vi) (hW : W.length <= 1000000) (hb : m.stack.length <= 1000000) (hop : W[m.pc]? = some 21) {v : Int} (hv : m.stack.getLast? = some v) :
  Calls Tryz.prog 73 #[.pointer (some ⟨xb, 0, none⟩)] w (StPo xb wb wc W Q fuel limit waits R w ({ m with pc := m.pc + 1, stack := m.stack.dropLast ++ [truthV (v != 0)] })) := by
 have H1 := part_same h hop hW
 have H2 : ∀ W1, MC xb wb wc W Q W1 { m with pc := m.pc + 1 } fuel limit waits R vi -> Calls Tryz.prog 113 #[.pointer (some ⟨xb, 0, none⟩), .int .i64 21] W1 (MPo xb wb wc W Q fuel limit waits R W1 (.tuple #[]) { m with pc := m.pc + 1, stack := m.stack.dropLast ++ [truthV (v != 0)] } vi) := fun W1 hM => operate_21 hM hv hb
 unfold MPo at H2
 clear hv hop
 generalize ({ m with pc := m.pc + 1, stack := m.stack.dropLast ++ [truthV (v != 0)] } : MS) = m9 at *
 go_enter Tryz.func73, Tryz.ntmps73
 go_wp2_with (first
  | (go_at_call 102; refine H1.mono ?_; rintro e w1 ⟨rfl, hM1, hk1⟩)
  | (go_at_call 113; refine (H2 _ hM1).mono ?_; rintro e w2 ⟨rfl, R2, hM2, hk2⟩))
 go_end0
 exact ⟨rfl, R2, vi, hM2, hk1.trans hk2⟩
theorem step_op_two (h : MC xb wb wc W Q w m fuel limit waits R vi) (hW : W.length <= 1000000) (hb : m.stack.length <= 1000000) {op : Nat} (hop : W[m.pc]? = some op) (h1 : 10 <= op) (h2 : op <= 18) {x y : Int} (hy : m.stack.getLast? = some y) (hx : m.stack.dropLast.getLast? = some x) :
  Calls Tryz.prog 73 #[.pointer (some ⟨xb, 0, none⟩)] w (StPo xb wb wc W Q fuel limit waits R w (joinM { m with pc := m.pc + 1, stack := m.stack.dropLast.dropLast } op x y)) := by
 have H1 := part_same h hop hW
 have H2 : ∀ W1, MC xb wb wc W Q W1 { m with pc := m.pc + 1 } fuel limit waits R vi -> Calls Tryz.prog 113 #[.pointer (some ⟨xb, 0, none⟩), .int .i64 (op : Nat)] W1 (MPo xb wb wc W Q fuel limit waits R W1 (.tuple #[]) (joinM { m with pc := m.pc + 1, stack := m.stack.dropLast.dropLast } op x y) vi) := fun W1 hM => operate_two hM hy hx hb h1 h2
 unfold MPo at H2
 have n0 : ((op : Int) == 0) = false := by simp; omega
 have n1 : ((op : Int) == 1) = false := by simp; omega
 have n2 : ((op : Int) == 2) = false := by simp; omega
 have n3 : ((op : Int) == 3) = false := by simp; omega
 have n4 : ((op : Int) == 4) = false := by simp; omega
 have n5 : ((op : Int) == 5) = false := by simp; omega
 have n6 : ((op : Int) == 6) = false := by simp; omega
 have n7 : ((op : Int) == 7) = false := by simp; omega
 have n8 : ((op : Int) == 8) = false := by simp; omega
 have n9 : ((op : Int) == 9) = false := by simp; omega
 have n22 : ((op : Int) == 22) = false := by simp; omega
 have n23 : ((op : Int) == 23) = false := by simp; omega
 have n24 : ((op : Int) == 24) = false := by simp; omega
 have n25 : ((op : Int) == 25) = false := by simp; omega
 have n26 : ((op : Int) == 26) = false := by simp; omega
 have n27 : ((op : Int) == 27) = false := by simp; omega
 have n28 : ((op : Int) == 28) = false := by simp; omega
 have n29 : ((op : Int) == 29) = false := by simp; omega
 clear hx hy hop
 generalize joinM { m with pc := m.pc + 1, stack := m.stack.dropLast.dropLast } op x y = m9 at *
 go_enter Tryz.func73, Tryz.ntmps73
 go_wp2_with (first
  | (go_at_call 102; refine H1.mono ?_; rintro e w1 ⟨rfl, hM1, hk1⟩)
  | (go_at_call 113; refine (H2 _ hM1).mono ?_; rintro e w2 ⟨rfl, R2, hM2, hk2⟩))
 go_end0
 exact ⟨rfl, R2, vi, hM2, hk1.trans hk2⟩
end
end Go.Proofs.YtklobognaldjpaaGreat
