/- The reference's walk through statements. -/
import Derived.Test.YtklobognaldjpaaGreatCWk10
namespace Go.Proofs.YtklobognaldjpaaGreat
open Go.RowKit

section
variable {wb tb cap : Nat} {T : List Tok} {m : Option Nm} {n : Nm} {w : World} {s : PS} {d : Int} {ex : PS → Ex × PS} {st : PS → St × PS}

set_option maxRecDepth 1000000 in
set_option maxHeartbeats 1000000 in
theorem iffs_any (hT : Toks T) (hF : ROK wb tb cap T m 177 (d + 1) ex) (hM : Mon T ex) (hS : SM T ex)
    (hG : RSK wb tb cap T m 151 (d + 1) (fun s => (st s).2)) (hMS : Mon T st) (hSS : SM T st) (hfx : FxA T)
    (hd0 : 0 ≤ d) (hd1 : d ≤ 14) (h : RW wb tb cap T m w s) (hc : s.code = 0) (hga : Good T (adv s)) (live : Bool) :
    Calls Tryz.prog 174 #[.pointer (some ⟨wb, 0, none⟩), .int .i64 s.next, .int .i64 d, .bool live] w (WSt wb tb cap T m (choiceSt T ex st (adv s)).2 w) := by
  have hsz := h.size
  have hga' : s.next + 1 < T.length := hga
  have hsa : Stk T (adv s) := stk_adv hc
  have hia : At (adv s) ((s.next : Int) + 1) := fun _ => by show _ = ((s.next + 1 : Nat) : Int); omega
  have hX := fun lv => hF w (adv s) _ lv (h.at (s.next + 1)) hga hsa hia
  have hma := hM _ hga
  have hsma := hS _ hsa
  have HE0 : Hid ((choiceSt T ex st (adv s)).2 = if sees T (bs [101, 108, 115, 101]) (st (want T (bs [116, 104, 101, 110]) (ex (adv s)).2)).2 then (st (adv (st (want T (bs [116, 104, 101, 110]) (ex (adv s)).2)).2)).2 else (st (want T (bs [116, 104, 101, 110]) (ex (adv s)).2)).2) := by
    show _ = _
    unfold choiceSt
    split <;> rfl
  generalize (choiceSt T ex st (adv s)).2 = r at *
  have hg2 := (mon_want hT (f := bs [116, 104, 101, 110]) (bs_ne _ (by simp)) hma.1).1
  have hs2 := (sm_want hT (f := bs [116, 104, 101, 110]) (bs_ne _ (by simp)) hsma.1).1
  have hN := fun W j (hj : At (ex (adv s)).2 j) (hP : RW wb tb cap T m W (ex (adv s)).2) => need_any hT hP hma.1 hsma.1 j hj (bs [116, 104, 101, 110]) (hfx _ (by decide))
  generalize want T (bs [116, 104, 101, 110]) (ex (adv s)).2 = s2 at *
  have hm3 := hMS _ hg2
  have hs3 := hSS _ hs2
  have hG1 := fun W lv (hP : RW wb tb cap T m W s2) => hG W s2 s2.next lv hP hg2 hs2 (at_self _)
  have hI := fun W j (hj : At (st s2).2 j) (hP : RW wb tb cap T m W (st s2).2) => is_any hT hP hm3.1 hs3.1 j hj (bs [101, 108, 115, 101]) (hfx _ (by decide))
  cases h1 : sees T (bs [101, 108, 115, 101]) (st s2).2 with
  | false =>
    rw [h1] at hI HE0
    have HE : Hid (r = (st s2).2) := HE0.out
    clear HE0 h1
    go_enter Tryz.func174, Tryz.ntmps174
    go_wp2_with (first
      | (go_at_call 176; refine (unit_any h _).mono ?_; rintro e wu ⟨rfl, hu⟩; obtain rfl := hu.symm; clear hu)
      | (go_at_call 177; refine (hX _).mono ?_; rintro e w2 ⟨v2, j2, rfl, ha2, hP2, hk2⟩)
      | (go_at_call 123; refine (hN _ _ ha2.1 hP2).mono ?_; rintro e w3 ⟨rfl, hP3, hk3⟩)
      | (go_at_call 151; refine (hG1 _ _ hP3).mono ?_; rintro e w4 ⟨j4, rfl, ha4, hP4, hk4⟩)
      | (go_at_call 94; refine (hI _ _ ha4 hP4).mono ?_; rintro e w5 ⟨rfl, h5⟩; obtain rfl := h5.symm; clear h5))
    go_ret
    unfold WSt
    rw [HE.out]
    exact ⟨_, rfl, ha4, hP4, (hk2.trans hk3).trans hk4⟩
  | true =>
    rw [h1] at hI HE0
    have hga3 := good_adv hT hm3.1 h1 (bs_ne _ (by simp))
    have hc3 := code_of_sees hT hs3.1 (bs_ne _ (by simp)) h1
    have hg3' : (st s2).2.next < T.length := hm3.1
    have HE : Hid (r = (st (adv (st s2).2)).2) := HE0.out
    have hG2 := fun W lv (hP : RW wb tb cap T m W (st s2).2) => hG W (adv (st s2).2) (((st s2).2.next : Int) + 1) lv (hP.at _) hga3 (stk_adv hc3) (fun _ => by show _ = (((st s2).2.next + 1 : Nat) : Int); omega)
    clear HE0 h1
    go_enter Tryz.func174, Tryz.ntmps174
    go_wp2_with (first
      | (go_at_call 176; refine (unit_any h _).mono ?_; rintro e wu ⟨rfl, hu⟩; obtain rfl := hu.symm; clear hu)
      | (go_at_call 177; refine (hX _).mono ?_; rintro e w2 ⟨v2, j2, rfl, ha2, hP2, hk2⟩)
      | (go_at_call 123; refine (hN _ _ ha2.1 hP2).mono ?_; rintro e w3 ⟨rfl, hP3, hk3⟩)
      | (go_at_call 151; refine (hG2 _ _ hP4).mono ?_; rintro e w6 ⟨j6, rfl, ha6, hP6, hk6⟩)
      | (go_at_call 151; refine (hG1 _ _ hP3).mono ?_; rintro e w4 ⟨j4, rfl, ha4, hP4, hk4⟩; obtain rfl := ha4 hc3)
      | (go_at_call 94; refine (hI _ _ (at_self _) hP4).mono ?_; rintro e w5 ⟨rfl, h5⟩; obtain rfl := h5.symm; clear h5))
    go_ret
    unfold WSt
    rw [HE.out]
    exact ⟨_, rfl, ha6, hP6, ((hk2.trans hk3).trans hk4).trans hk6⟩

set_option maxRecDepth 1000000 in
set_option maxHeartbeats 1000000 in
theorem whiles_any (hT : Toks T) (hF : ROK wb tb cap T m 177 (d + 1) ex) (hM : Mon T ex) (hS : SM T ex)
    (hG : RSK wb tb cap T m 151 (d + 1) (fun s => (st s).2)) (hfx : FxA T)
    (hd0 : 0 ≤ d) (hd1 : d ≤ 14) (h : RW wb tb cap T m w s) (hc : s.code = 0) (hga : Good T (adv s)) (live : Bool) :
    Calls Tryz.prog 175 #[.pointer (some ⟨wb, 0, none⟩), .int .i64 s.next, .int .i64 d, .bool live] w (WSt wb tb cap T m (whileSt T ex st (adv s)).2 w) := by
  have hsz := h.size
  have hga' : s.next + 1 < T.length := hga
  have hsa : Stk T (adv s) := stk_adv hc
  have hia : At (adv s) ((s.next : Int) + 1) := fun _ => by show _ = ((s.next + 1 : Nat) : Int); omega
  have hX := fun lv => hF w (adv s) _ lv (h.at (s.next + 1)) hga hsa hia
  have hma := hM _ hga
  have hsma := hS _ hsa
  have HE : Hid ((whileSt T ex st (adv s)).2 = (st (want T (bs [100, 111]) (ex (adv s)).2)).2) := rfl
  generalize (whileSt T ex st (adv s)).2 = r at *
  have hg2 := (mon_want hT (f := bs [100, 111]) (bs_ne _ (by simp)) hma.1).1
  have hs2 := (sm_want hT (f := bs [100, 111]) (bs_ne _ (by simp)) hsma.1).1
  have hN := fun W j (hj : At (ex (adv s)).2 j) (hP : RW wb tb cap T m W (ex (adv s)).2) => need_any hT hP hma.1 hsma.1 j hj (bs [100, 111]) (hfx _ (by decide))
  generalize want T (bs [100, 111]) (ex (adv s)).2 = s2 at *
  have hG1 := fun W lv (hP : RW wb tb cap T m W s2) => hG W s2 s2.next lv hP hg2 hs2 (at_self _)
  go_enter Tryz.func175, Tryz.ntmps175
  go_wp2
  go_loopw [9, 10, 11, 12, 13] (fun _ _ _ _ _ wr => wr = w) (fun _ _ _ _ _ _ => 0)
  case atStart => rfl
  case round =>
    obtain rfl := hrel
    go_wp2_with (first
      | (go_at_call 176; refine (unit_any h _).mono ?_; rintro e wu ⟨rfl, hu⟩; obtain rfl := hu.symm; clear hu)
      | (go_at_call 177; refine (hX _).mono ?_; rintro e w2 ⟨v2, j2, rfl, ha2, hP2, hk2⟩)
      | (go_at_call 123; refine (hN _ _ ha2.1 hP2).mono ?_; rintro e w3 ⟨rfl, hP3, hk3⟩)
      | (go_at_call 178; refine (lives_any hP3 _).mono ?_; rintro e wl ⟨rfl, hl⟩; obtain rfl := hl.symm; clear hl)
      | (go_at_call 151; refine (hG1 _ _ hP3).mono ?_; rintro e w4 ⟨j4, rfl, ha4, hP4, hk4⟩))
    go_ret
    unfold WSt
    rw [HE.out]
    exact ⟨_, rfl, ha4, hP4, (hk2.trans hk3).trans hk4⟩

theorem refList_go {n : Nat} {acc : List St} {s : PS} (h : sees T (bs [59]) (listOne T st s).2 = true) : listLoop T st (n + 1) acc s = listLoop T st n (acc ++ (listOne T st s).1) (adv (listOne T st s).2) := by rw [listLoop, if_pos h]
theorem refList_stop {n : Nat} {acc : List St} {s : PS} (h : sees T (bs [59]) (listOne T st s).2 = false) : listLoop T st (n + 1) acc s = (acc ++ (listOne T st s).1, (listOne T st s).2) := by rw [listLoop, if_neg (by rw [h]; simp)]

set_option maxRecDepth 1000000 in
set_option maxHeartbeats 1000000 in
theorem list_live (hT : Toks T) (hG : RSK wb tb cap T m 151 d (fun s => (st s).2)) (hMS : Mon T st) (hSS : SM T st) (hfx : FxA T)
    (h : RW wb tb cap T m w s) (hg : Good T s) (hc : s.code = 0) (live : Bool) :
    Calls Tryz.prog 122 #[.pointer (some ⟨wb, 0, none⟩), .int .i64 s.next, .int .i64 d, .bool live] w (WSt wb tb cap T m (listOf T st s).2 w) := by
  have hsz := h.size
  go_enter Tryz.func122, Tryz.ntmps122
  go_wp2
  go_loopw [1, 9, 10, 11] (fun i _ _ _ wr => ∃ (s' : PS) (acc : List St) (nn : Nat), i = .int .i64 (s'.next : Int) ∧ RW wb tb cap T m wr s' ∧ Par wb w wr ∧ Good T s' ∧ s'.code = 0 ∧ T.length ≤ s'.next + nn ∧ Hid ((listLoop T st nn acc s').2 = (listOf T st s).2)) (fun i _ _ _ _ => T.length - (intOf i).toNat)
  case atStart => exact ⟨s, [], T.length, rfl, h, Par.refl _ _, hg, hc, by omega, rfl⟩
  case round =>
    obtain ⟨s', acc, nn, rfl, hP, hk, hg2, hc2, hn2, HL⟩ := hrel
    have hg2' : s'.next < T.length := hg2
    have hs2 : Stk T s' := fun h => absurd hc2 h
    have hfa := hP.fault
    rw [hc2] at hfa
    have h59 := is_any hT hP hg2 hs2 s'.next (at_self _) (bs [59]) (hfx _ (by decide))
    have hen := is_any hT hP hg2 hs2 s'.next (at_self _) (bs [101, 110, 100]) (hfx _ (by decide))
    obtain ⟨n2, rfl⟩ : ∃ n2, nn = n2 + 1 := ⟨nn - 1, by omega⟩
    cases ha : sees T (bs [59]) s' with
    | true =>
      rw [ha] at h59
      rw [sees_one (b := [101, 110, 100]) ha (by decide)] at hen
      have e1 : listOne T st s' = ([], s') := by unfold listOne; rw [ha]; rfl
      have HL2 : Hid ((listLoop T st n2 (acc ++ []) (adv s')).2 = (listOf T st s).2) := by show _ = _; rw [← HL.out, refList_go (by rw [e1]; exact ha), e1]
      have hga := good_adv hT hg2 ha (bs_ne _ (by simp))
      clear HL ha e1
      go_wp2_with (first
        | (go_at_call 94; have _q := mk2; refine h59.mono ?_; rintro e w1 ⟨rfl, h1⟩; obtain rfl := h1.symm; clear h1)
        | (go_at_call 94; have _q := mk1; refine hen.mono ?_; rintro e w1 ⟨rfl, h1⟩; obtain rfl := h1.symm; clear h1; have mk2 : Hid True := trivial)
        | (go_at_call 94; refine h59.mono ?_; rintro e w1 ⟨rfl, h1⟩; obtain rfl := h1.symm; clear h1; have mk1 : Hid True := trivial))
      go_roundw
      case rel => exact ⟨adv s', _, n2, by show _ = Value.int .i64 ((s'.next + 1 : Nat) : Int); go_num, hP.at _, hk, hga, hc2, by show T.length ≤ s'.next + 1 + n2; omega, HL2⟩
      case measure => simp [intOf]; omega
    | false =>
      rw [ha] at h59
      cases hb : sees T (bs [101, 110, 100]) s' with
      | true =>
        rw [hb] at hen
        have e1 : listOne T st s' = ([], s') := by unfold listOne; rw [ha, hb]; rfl
        have HL2 : Hid ((listOf T st s).2 = s') := by show _ = _; rw [← HL.out, refList_stop (by rw [e1]; exact ha), e1]
        clear HL ha hb e1
        go_wp2_with (first
          | (go_at_call 94; have _q := mk2; refine h59.mono ?_; rintro e w1 ⟨rfl, h1⟩; obtain rfl := h1.symm; clear h1)
          | (go_at_call 94; have _q := mk1; refine hen.mono ?_; rintro e w1 ⟨rfl, h1⟩; obtain rfl := h1.symm; clear h1; have mk2 : Hid True := trivial)
          | (go_at_call 94; refine h59.mono ?_; rintro e w1 ⟨rfl, h1⟩; obtain rfl := h1.symm; clear h1; have mk1 : Hid True := trivial))
        go_ret
        unfold WSt
        rw [HL2.out]
        exact ⟨_, rfl, at_self _, hP, hk⟩
      | false =>
        rw [hb] at hen
        have e1 : listOne T st s' = ([(st s').1], (st s').2) := by unfold listOne; rw [ha, hb]; rfl
        have hma := hMS _ hg2
        have hsma := hSS _ hs2
        have hmn := hma.2
        have hmg : (st s').2.next < T.length := hma.1
        have hA := hG wr s' s'.next live hP hg2 hs2 (at_self _)
        have hI2 := fun W j (hj : At (st s').2 j) (hP4 : RW wb tb cap T m W (st s').2) => is_any hT hP4 hma.1 hsma.1 j hj (bs [59]) (hfx _ (by decide))
        cases hz : sees T (bs [59]) (st s').2 with
        | true =>
          rw [hz] at hI2
          have hc3 := code_of_sees hT hsma.1 (bs_ne _ (by simp)) hz
          have hga := good_adv hT hma.1 hz (bs_ne _ (by simp))
          have HL2 : Hid ((listLoop T st n2 (acc ++ [(st s').1]) (adv (st s').2)).2 = (listOf T st s).2) := by show _ = _; rw [← HL.out, refList_go (by rw [e1]; exact hz), e1]
          clear HL ha hb hz e1
          go_wp2_with (first
            | (go_at_call 94; refine (hI2 _ _ (at_self _) hP4).mono ?_; rintro e w6 ⟨rfl, h6⟩; obtain rfl := h6.symm; clear h6)
            | (go_at_call 94; have _q := mk1; refine hen.mono ?_; rintro e w1 ⟨rfl, h1⟩; obtain rfl := h1.symm; clear h1)
            | (go_at_call 94; refine h59.mono ?_; rintro e w1 ⟨rfl, h1⟩; obtain rfl := h1.symm; clear h1; have mk1 : Hid True := trivial)
            | (go_at_call 151; refine hA.mono ?_; rintro e w4 ⟨j4, rfl, ha4, hP4, hk4⟩; obtain rfl := ha4 hc3))
          go_roundw
          case rel => exact ⟨adv (st s').2, _, n2, by show _ = Value.int .i64 (((st s').2.next + 1 : Nat) : Int); go_num, hP4.at _, hk.trans hk4, hga, hc3, by show T.length ≤ (st s').2.next + 1 + n2; omega, HL2⟩
          case measure => simp [intOf]; omega
        | false =>
          rw [hz] at hI2
          have HL2 : Hid ((listOf T st s).2 = (st s').2) := by show _ = _; rw [← HL.out, refList_stop (by rw [e1]; exact hz), e1]
          clear HL ha hb hz e1
          go_wp2_with (first
            | (go_at_call 94; refine (hI2 _ _ ha4 hP4).mono ?_; rintro e w6 ⟨rfl, h6⟩; obtain rfl := h6.symm; clear h6)
            | (go_at_call 94; have _q := mk1; refine hen.mono ?_; rintro e w1 ⟨rfl, h1⟩; obtain rfl := h1.symm; clear h1)
            | (go_at_call 94; refine h59.mono ?_; rintro e w1 ⟨rfl, h1⟩; obtain rfl := h1.symm; clear h1; have mk1 : Hid True := trivial)
            | (go_at_call 151; refine hA.mono ?_; rintro e w4 ⟨j4, rfl, ha4, hP4, hk4⟩))
          go_ret
          unfold WSt
          rw [HL2.out]
          exact ⟨_, rfl, ha4, hP4, hk.trans hk4⟩

set_option maxRecDepth 100000 in
set_option maxHeartbeats 1000000 in
theorem list_dead (h : RW wb tb cap T m w s) (hg : Good T s) (hc : s.code ≠ 0) (i : Int) (live : Bool) :
    Calls Tryz.prog 122 #[.pointer (some ⟨wb, 0, none⟩), .int .i64 i, .int .i64 d, .bool live] w (WSt wb tb cap T m s w) := by
  have hfa := h.fault
  have hz' : ((s.code : Int) == 0) = false := by simp; omega
  have hE := refEnd_any h hg
  have HA : Hid (∀ j, At s j) := fun j h => absurd h hc
  clear hc
  go_enter Tryz.func122, Tryz.ntmps122
  go_wp2
  go_loopw [1, 9, 10, 11] (fun _ _ _ _ wr => wr = w) (fun _ _ _ _ _ => 0)
  case atStart => rfl
  case round =>
    obtain rfl := hrel
    go_wp2_with (go_at_call 126; refine hE.mono ?_; rintro e w1 ⟨rfl, h1⟩; obtain rfl := h1.symm; clear h1)
    go_ret
    exact ⟨_, rfl, HA.out _, h, Par.refl _ _⟩

/-- A list of statements, at a depth. -/
theorem list_ok (hT : Toks T) (hG : RSK wb tb cap T m 151 d (fun s => (st s).2)) (hMS : Mon T st) (hSS : SM T st) (hfx : FxA T) : RSK wb tb cap T m 122 d (fun s => (listOf T st s).2) := by
  intro w s i live h hg hs hi
  by_cases hc : s.code = 0
  · obtain rfl := hi hc
    exact list_live hT hG hMS hSS hfx h hg hc live
  · rw [show (fun s => (listOf T st s).2) s = s from (sm_listOf hT hSS s hs).2 hc]
    exact list_dead h hg hc i live

end

end Go.Proofs.YtklobognaldjpaaGreat
