/- The reference's walk: a proc or func. -/
import Derived.Test.YtklobognaldjpaaGreatCDcl8
import Derived.Test.YtklobognaldjpaaGreatCNam4
import Derived.Test.YtklobognaldjpaaGreatCWk12
import Derived.Deep.CutRange
import Derived.Deep.DeepCutAuto
import Derived.Deep.RegionHeld3
namespace Go.Proofs.YtklobognaldjpaaGreat
open Go.RowKit

section
variable {wb tb cap : Nat} {T : List Tok} {m : Option Nm} {n : Nm} {w w0 : World} {s : PS}

theorem routineN_dead (hT : Toks T) (m : Option Env) (kind : Nat) {s : PS} (hg : Good T s) (hs : Stk T s) (hc : (openN T s).code ≠ 0) : (routineN T m kind s).2 = openN T s := by
  have h1 := go2_openN hT hg hs
  have h2 := go2_declE hT m false s kind (countT T (openN T s)) h1.good h1.stk
  have h3 := h2.trans (go2_manyE hT m s (countT T (openN T s)) h2.good h2.stk)
  have h4 := h3.trans (go2_paramsN hT (routE T m kind s).1 h3.good h3.stk)
  have h5 := h4.trans (go2_want hT (f := bs [41]) (bs_ne _ (by simp)) h4.good h4.stk)
  have h6 := h5.trans (go2_localsLoopN hT T.length (routHead T m kind s).1 _ h5.good h5.stk)
  have h7 := h6.trans (go2_want hT (f := bs [98, 101, 103, 105, 110]) (bs_ne _ (by simp)) h6.good h6.stk)
  have h8 := h7.trans (go2_list hT ((routLocals T m kind s).1.map Env.enter) 14 h7.good h7.stk)
  have h9 := h8.trans (go2_want hT (f := bs [101, 110, 100]) (bs_ne _ (by simp)) h8.good h8.stk)
  exact (h9.trans (go2_want hT (f := bs [59]) (bs_ne _ (by simp)) h9.good h9.stk)).still hc

set_option maxRecDepth 100000 in
set_option maxHeartbeats 1000000 in
theorem routine_dead (hT : Toks T) (hfx : FxA T) (h : RD wb tb cap T w0 m w s) (hg : Good T s) (hs : Stk T s) (i : Int) (hi : At s i) (kind : Nat) (hc : (openN T s).code ≠ 0) :
    Calls Tryz.prog 97 #[.pointer (some ⟨wb, 0, none⟩), .int .i64 i, .int .i64 kind] w (RDecl wb tb cap T w0 m (routineN T (mdE m) kind s).1 (routineN T (mdE m) kind s).2) := by
  have hO := of_any hT h.rw hg hs i hi .name 1 rfl (.inl (by decide))
  rw [ofK_name] at hO
  have h1 := go2_nameP hT hg hs
  have hN := fun W (hP : RW wb tb cap T m W (nameP T s).2) => need_any hT hP h1.good h1.stk (nameP T s).2.next (fun _ => rfl) (bs [40]) (hfx _ (by decide))
  have e1 : want T (bs [40]) (nameP T s).2 = openN T s := rfl
  rw [e1] at hN
  have h2 := go2_openN hT hg hs
  have HE : Hid ((routineN T (mdE m) kind s).2 = openN T s) := routineN_dead hT (mdE m) kind hg hs hc
  have hE := fun W (hP : RW wb tb cap T m W (openN T s)) => refEnd_any hP h2.good
  clear e1
  generalize openN T s = sO at *
  have hz' : ((sO.code : Int) != 0) = true := by simp; omega
  have HA : Hid (∀ j, At sO j) := fun j h => absurd h hc
  have HV : Hid (sO.code = 0 → mdE m = (routineN T (mdE m) kind s).1) := fun h => absurd h hc
  clear hc
  go_enter Tryz.func97, Tryz.ntmps97
  go_wp2_with (first
    | (go_at_call 124; refine hO.mono ?_; rintro e w1 ⟨rfl, hP1, hk1⟩)
    | (go_at_call 123; refine (hN _ hP1).mono ?_; rintro e w2 ⟨rfl, hP2, hk2⟩; have hf2 := hP2.fault)
    | (go_at_call 126; refine (hE _ hP2).mono ?_; rintro e w3 ⟨rfl, h3⟩; obtain rfl := h3.symm; clear h3))
  go_ret
  unfold RDecl
  rw [HE.out]
  exact ⟨_, m, rfl, HA.out _, rfl, HV.out, (h.step hP1 hk1).step hP2 hk2⟩

theorem Tryz.infoString : (Tryz.prog.info? 9).map (fun i => (i.zero, i.size, i.bytes)) = some (some (.string ⟨#[]⟩), 1, 16) := by kernel_rfl

theorem manyE_keep {mE : Option Env} {s0 s : PS} {n : Nat} (hc : (manyE T mE s0 n s).code = 0) : manyE T mE s0 n s = s := by
  unfold manyE at *
  split
  · rfl
  · simp only at hc
    split
    · rename_i h; rw [if_pos h] at hc; simp [stop] at hc
    · rfl

theorem at_routE {mE : Option Env} {kind : Nat} {s : PS} : At (routE T mE kind s).2 (openN T s).next := by
  intro hc
  have e2 : (routE T mE kind s).2 = (declE T mE false s kind (countT T (openN T s)) (openN T s)).2 := manyE_keep hc
  rw [e2] at hc ⊢
  rw [declE_live hc]

theorem manyE_fails {E : Env} {s0 s : PS} {n : Nat} (hs : Stk T s) (h : 4 < n) : manyE T (some E) s0 n s = fails T 7 { s with next := s0.next } := by
  unfold manyE
  simp only
  by_cases hz : s.code = 0
  · rw [if_pos (And.intro hz h)]; simp [fails, stop, hz]; rfl
  · rw [if_neg (fun h => hz h.1)]
    have h9 := hs hz
    simp only [fails, if_neg hz]
    rw [← h9]

set_option linter.unusedSimpArgs false in
set_option maxRecDepth 1000000 in
set_option maxHeartbeats 16000000 in
theorem routine_live (hT : Toks T) (hfx : FxA T) (h : RD wb tb cap T w0 m w s) (hg : Good T s) (hs : Stk T s) (i : Int) (hi : At s i) (kind : Nat) (hcn : CntE (mdE m) s) (hc : (openN T s).code = 0) :
    Calls Tryz.prog 97 #[.pointer (some ⟨wb, 0, none⟩), .int .i64 i, .int .i64 kind] w (RDecl wb tb cap T w0 m (routineN T (mdE m) kind s).1 (routineN T (mdE m) kind s).2) := by
  have hc0 : s.code = 0 := (go2_openN hT hg hs).code hc
  obtain rfl := hi hc0
  have hsz := h.rw.size
  have hgn : s.next < T.length := hg
  have h1 := go2_nameP hT hg hs
  have hO := of_any hT h.rw hg hs s.next (fun _ => rfl) .name 1 rfl (.inl (by decide))
  rw [ofK_name] at hO
  have hN := fun W (hP : RW wb tb cap T m W (nameP T s).2) => need_any hT hP h1.good h1.stk (nameP T s).2.next (fun _ => rfl) (bs [40]) (hfx _ (by decide))
  have e1 : want T (bs [40]) (nameP T s).2 = openN T s := rfl
  rw [e1] at hN
  clear e1
  have h2 := go2_openN hT hg hs
  have hC := fun W (hP : RW wb tb cap T m W (openN T s)) => count_any hT hP h2.good
  have hDe := fun W (hP : RD wb tb cap T w0 m W (openN T s)) => declare_any hP hg false ⟨#[]⟩ kind (fun h => by cases h) none 0 0 (countT T (openN T s)) (fun n hn _ => by subst hn; exact Nat.le_trans (CntE.row (E := n.E) hcn false) (by omega))
  unfold cellV at hDe
  have hgE := go2_routE hT (mdE m) kind hg hs
  have haE : At (routE T (mdE m) kind s).2 (openN T s).next := at_routE
  have HcE : Hid ((routE T (mdE m) kind s).2.code = 0 → CntE (routE T (mdE m) kind s).1 (routE T (mdE m) kind s).2) := fun hz => cnt_routE hT (kind := kind) hcn hg hs hz
  have HRE : Hid ((routE T (mdE m) kind s).1 = (declE T (mdE m) false s kind (countT T (openN T s)) (openN T s)).1 ∧ (routE T (mdE m) kind s).2 = manyE T (mdE m) s (countT T (openN T s)) (declE T (mdE m) false s kind (countT T (openN T s)) (openN T s)).2) := ⟨rfl, rfl⟩
  have hgD := go2_declE hT (mdE m) false s kind (countT T (openN T s)) h2.good h2.stk
  have HIS : Hid (∀ m', mdE m' = (declE T (mdE m) false s kind (countT T (openN T s)) (openN T s)).1 → m'.isSome = m.isSome) := by
    show ∀ m', _
    intro m' hm; exact isSome_declE hm
  have HRN : Hid (routineN T (mdE m) kind s = ((routLocals T (mdE m) kind s).1.map Env.leave, want T (bs [59]) (want T (bs [101, 110, 100]) (listOf T (stmtN T ((routLocals T (mdE m) kind s).1.map Env.enter) 14) (want T (bs [98, 101, 103, 105, 110]) (routLocals T (mdE m) kind s).2)).2))) := rfl
  have HRL : Hid (routLocals T (mdE m) kind s = localsLoopN T T.length (routHead T (mdE m) kind s).1 (want T (bs [41]) (routHead T (mdE m) kind s).2)) := rfl
  have HRH : Hid (routHead T (mdE m) kind s = paramsN T (routE T (mdE m) kind s).1 (routE T (mdE m) kind s).2) := rfl
  have HFR : Hid (∀ E, mdE m = some E → ∀ E', (routLocals T (mdE m) kind s).1 = some E' → (routLocals T (mdE m) kind s).2.code = 0 → 0 < E'.glob.length ∧ E'.fresh = true) := by
    show ∀ E, _
    intro E hE E' h1 h2
    rw [hE] at h1 h2
    exact fresh_routLocals hT hg hs h1 h2
  have HCH : Hid ((routHead T (mdE m) kind s).2.code = 0 → CntE (routHead T (mdE m) kind s).1 (routHead T (mdE m) kind s).2) := fun hz => cnt_routHead hT (kind := kind) hcn hg hs hz
  have hgH := go2_routHead hT (mdE m) kind hg hs
  generalize routineN T (mdE m) kind s = RN at *
  generalize routLocals T (mdE m) kind s = RL at *
  generalize routHead T (mdE m) kind s = RH at *
  generalize routE T (mdE m) kind s = RE at *
  generalize declE T (mdE m) false s kind (countT T (openN T s)) (openN T s) = D at *
  generalize countT T (openN T s) = ct at *
  generalize openN T s = sO at *
  have h2n : sO.next < T.length := h2.good
  go_enter Tryz.func97, Tryz.ntmps97
  go_upto_region 8 with (first
    | (go_at_call 124; refine hO.mono ?_; rintro e w1 ⟨rfl, hP1, hk1⟩)
    | (go_at_call 123; refine (hN _ hP1).mono ?_; rintro e w2 ⟨rfl, hP2, hk2⟩; have hf2 := hP2.fault; rw [hc] at hf2)
    | (go_at_call 127; refine (hC _ hP2).mono ?_; rintro e w3 ⟨rfl, h3⟩; obtain rfl := h3.symm; clear h3)
    | (go_at_call 125; refine (hDe _ ((h.step hP1 hk1).step hP2 hk2)).mono ?_; rintro e w4 ⟨rfl, m2, hm2, hDD⟩))
  obtain ⟨B, hB⟩ : ∃ B : Bool, B = (m.isSome && decide (4 < ct)) := ⟨_, rfl⟩
  have HB : Hid (B = (m.isSome && decide (4 < ct))) := hB
  clear hB
  go_cut [44] (fun s44 wx => s44 = .bool B ∧ RD wb tb cap T w0 m2 wx D.2)
  case first =>
    have hmo2 := hDD.rw.mode_
    have his := HIS.out _ hm2
    cases hmm : m2 with
    | none =>
      have e9 : B = false := by rw [HB.out, ← his, hmm]; rfl
      subst e9
      rw [hmm] at hmo2
      simp only [mdI] at hmo2
      clear his HB
      go_wp2_with fail
      go_meet
      exact ⟨rfl, hDD⟩
    | some n0 =>
      rw [hmm] at hmo2
      simp only [mdI] at hmo2
      by_cases h4 : 4 < ct
      · have e9 : B = true := by rw [HB.out, ← his, hmm]; simp [h4]
        subst e9
        have h4i : (4 : Int) < (ct : Int) := by omega
        clear his HB h4
        go_wp2_with fail
        go_meet
        exact ⟨rfl, hDD⟩
      · have e9 : B = false := by rw [HB.out, ← his, hmm]; simp [h4]
        subst e9
        have h4i : ¬ (4 : Int) < (ct : Int) := by omega
        clear his HB h4
        go_wp2_with fail
        go_meet
        exact ⟨rfl, hDD⟩
  case rest =>
  obtain ⟨rfl, hDD2⟩ := hcut
  go_upto_if 44 with fail
  go_cut [8] (fun s8 wx => s8 = .int .i64 (ct : Int) ∧ RD wb tb cap T w0 m2 wx RE.2)
  case first =>
    have his := HIS.out _ hm2
    have HR2 := HRE.out.2
    cases hBB : B with
    | true =>
      have h9 : m.isSome = true ∧ 4 < ct := by have := HB.out; rw [hBB] at this; simpa using this.symm
      obtain ⟨E0, hE0⟩ : ∃ E0, mdE m = some E0 := by
        cases m with
        | none => simp at h9
        | some n0 => exact ⟨_, rfl⟩
      have hW := fun W (hP : RW wb tb cap T m2 W D.2) => wrong_any (hP.at s.next) (s := { D.2 with next := s.next }) hg 7 s.next (fun _ => rfl)
      have e8 : RE.2 = fails T 7 { D.2 with next := s.next } := by rw [HR2, hE0]; exact manyE_fails hgD.stk h9.2
      rw [← e8] at hW
      clear HR2 his e8 h9 hBB HB hE0
      go_wp2_with (go_at_call 98; refine (hW _ hDD2.rw).mono ?_; rintro e w5 ⟨rfl, hP5, hk5⟩)
      go_meet
      exact ⟨rfl, hDD2.step hP5 hk5⟩
    | false =>
      have e8 : RE.2 = D.2 := by
        rw [HR2]
        cases hmm : m with
        | none => rfl
        | some n0 =>
          show manyE T (some n0.E) s ct D.2 = D.2
          have h9 : ¬ 4 < ct := by have := HB.out; rw [hBB, hmm] at this; simpa using this
          unfold manyE
          simp only
          rw [if_neg (fun h => h9 h.2)]
      have HD : Hid (RD wb tb cap T w0 m2 wc RE.2) := by
        show RD _ _ _ _ _ _ _ _
        rw [e8]; exact hDD2
      clear HR2 his e8 hBB HB
      go_wp2_with fail
      go_meet
      exact ⟨rfl, HD.out⟩
  case rest =>
    obtain ⟨rfl, hD3⟩ := hcut
    have hI := fun W (hP : RW wb tb cap T m2 W RE.2) => is_any hT hP hgE.good hgE.stk sO.next haE (bs [41]) (hfx _ (by decide))
    have HM2 : Hid (mdE m2 = RE.1) := by show _ = _; rw [HRE.out.1]; exact hm2
    go_upto_if 52 with (first
      | (go_at_call 94; refine (hI _ hD3.rw).mono ?_; rintro e w6 ⟨rfl, h6⟩; obtain rfl := h6.symm; clear h6))
    go_cut [1, 9] (fun s1 _ wx => ∃ (j : Int) (m4 : Option Nm), s1 = .int .i64 j ∧ At RH.2 j ∧ m4.isSome = m.isSome ∧ Hid (RH.2.code = 0 → mdE m4 = RH.1) ∧ RD wb tb cap T w0 m4 wx RH.2)
    case first =>
      cases hz : sees T (bs [41]) RE.2 with
      | true =>
        have e5 : RH = RE := by rw [HRH.out]; unfold paramsN; rw [if_pos hz]
        have his := HIS.out _ hm2
        have HX : Hid (∃ (j : Int) (m4 : Option Nm), Value.int .i64 (sO.next : Int) = .int .i64 j ∧ At RH.2 j ∧ m4.isSome = m.isSome ∧ Hid (RH.2.code = 0 → mdE m4 = RH.1) ∧ RD wb tb cap T w0 m4 wc RH.2) := by
          show ∃ j m4, _
          rw [e5]
          exact ⟨_, m2, rfl, haE, his, fun _ => HM2.out, hD3⟩
        clear e5 his hz
        go_wp2_with fail
        go_meet
        exact HX.out
      | false =>
        have e5 : RH = hereN T RE.1 RE.2 := by rw [HRH.out]; unfold paramsN; rw [if_neg (by rw [hz]; simp)]
        have his := HIS.out _ hm2
        have hH := here_any hT hfx hD3 hgE.good hgE.stk sO.next haE (fun h0 => by rw [HM2.out]; exact HcE.out h0)
        rw [HM2.out, ← e5] at hH
        clear e5 hz
        go_wp2_with (go_at_call 128; refine hH.mono ?_; rintro e w7 ⟨j7, m7, rfl, ha7, hs7, he7, hD7⟩)
        go_meet
        exact ⟨j7, m7, rfl, ha7, hs7.trans his, he7, hD7⟩
    case rest =>
      obtain ⟨j4, m4, rfl, ha4, hs4, He4, hD4⟩ := hcut
      have hg5 := go2_want hT (f := bs [41]) (bs_ne _ (by simp)) hgH.good hgH.stk
      have hN5 := need_any hT hD4.rw hgH.good hgH.stk j4 ha4 (bs [41]) (hfx _ (by decide))
      have HC5 : Hid ((want T (bs [41]) RH.2).code = 0 → mdE m4 = RH.1 ∧ CntE RH.1 (want T (bs [41]) RH.2)) := fun h0 => by
        have h9 := want_ok2 h0
        exact ⟨He4.out h9, (HCH.out h9).le hg5.le⟩
      generalize want T (bs [41]) RH.2 = s5 at *
      have hI5 := fun W m' (hP : RW wb tb cap T m' W s5) => is_any hT hP hg5.good hg5.stk s5.next (fun _ => rfl) (bs [118, 97, 114]) (hfx _ (by decide))
      have hg5n : s5.next < T.length := hg5.good
      go_wp2_with (first
        | (go_at_call 123; refine hN5.mono ?_; rintro e w8 ⟨rfl, hP8, hk8⟩)
        | (go_at_call 94; refine (hI5 _ _ hP8).mono ?_; rintro e w9 ⟨rfl, h9⟩; obtain rfl := h9.symm; clear h9))
      go_loopw [1, 10] (fun i mo wr => ∃ (s' : PS) (mm : Option Nm) (nn : Nat) (E' : Option Env), i = .int .i64 (s'.next : Int) ∧ mo = .bool (sees T (bs [118, 97, 114]) s') ∧ RD wb tb cap T w0 mm wr s' ∧ mm.isSome = m.isSome ∧ Good T s' ∧ Stk T s' ∧ Hid (s'.code = 0 → mdE mm = E' ∧ CntE E' s') ∧ T.length ≤ s'.next + nn ∧ Hid (localsLoopN T nn E' s' = RL)) (fun i _ _ => T.length - (intOf i).toNat)
      case atStart => exact ⟨s5, m4, T.length, RH.1, rfl, rfl, hD4.step hP8 hk8, hs4, hg5.good, hg5.stk, HC5, by omega, HRL.out.symm⟩
      case round =>
        obtain ⟨s', mm, nn, E', rfl, rfl, hD, hsm, hg6, hs6, HE6, hn6, HL⟩ := hrel
        have hg6n : s'.next < T.length := hg6
        have HSM : Hid (mm.isSome = m.isSome) := hsm
        clear hsm
        cases hz : sees T (bs [118, 97, 114]) s' with
        | true =>
          have hc6 := code_of_sees hT hs6 (bs_ne _ (by simp)) hz
          have hga := good_adv hT hg6 hz (bs_ne _ (by simp))
          obtain ⟨he6, hcn6⟩ := HE6.out hc6
          obtain ⟨n2, rfl⟩ : ∃ n2, nn = n2 + 1 := ⟨nn - 1, by omega⟩
          have hsa : Stk T (adv s') := stk_adv hc6
          have hH := here_any hT hfx (show RD wb tb cap T w0 mm wr (adv s') from hD.at _) hga hsa ((s'.next : Int) + 1) (fun _ => by show _ = ((s'.next + 1 : Nat) : Int); omega) (fun _ => by rw [he6]; exact hcn6.le (Nat.le_succ _))
          rw [he6] at hH
          have hgh := go2_hereN hT E' hga hsa
          have hgw := go2_want hT (f := bs [59]) (bs_ne _ (by simp)) hgh.good hgh.stk
          have hN7 := fun W m' j (hj : At (hereN T E' (adv s')).2 j) (hP : RW wb tb cap T m' W (hereN T E' (adv s')).2) => need_any hT hP hgh.good hgh.stk j hj (bs [59]) (hfx _ (by decide))
          have HCN : Hid ((want T (bs [59]) (hereN T E' (adv s')).2).code = 0 → (hereN T E' (adv s')).2.code = 0 ∧ CntE (hereN T E' (adv s')).1 (want T (bs [59]) (hereN T E' (adv s')).2)) := fun h0 => by
            have h9 := want_ok2 h0
            exact ⟨h9, (cnt_hereN hT (hcn6.le (Nat.le_succ _)) hga hsa h9).le hgw.le⟩
          have HL2 : Hid (localsLoopN T n2 (hereN T E' (adv s')).1 (want T (bs [59]) (hereN T E' (adv s')).2) = RL) := by show _ = _; rw [← HL.out, localsLoopN_go hz]
          have hle : s'.next + 1 ≤ (want T (bs [59]) (hereN T E' (adv s')).2).next := Nat.le_trans hgh.le hgw.le
          generalize hereN T E' (adv s') = H at *
          generalize want T (bs [59]) H.2 = s7 at *
          have hI7 := fun W m' (hP : RW wb tb cap T m' W s7) => is_any hT hP hgw.good hgw.stk s7.next (fun _ => rfl) (bs [118, 97, 114]) (hfx _ (by decide))
          have hg7n : s7.next < T.length := hgw.good
          clear HL hz HE6 he6 hcn6
          go_wp2_with (first
            | (go_at_call 128; refine hH.mono ?_; rintro e w7 ⟨j7, m7, rfl, ha7, hs7, he7, hD7⟩)
            | (go_at_call 123; refine (hN7 _ _ _ ha7 hD7.rw).mono ?_; rintro e w8 ⟨rfl, hP8, hk8⟩)
            | (go_at_call 94; refine (hI7 _ _ hP8).mono ?_; rintro e w9 ⟨rfl, h9⟩; obtain rfl := h9.symm; clear h9))
          go_roundw
          case rel => exact ⟨s7, m7, n2, H.1, rfl, rfl, hD7.step hP8 hk8, hs7.trans HSM.out, hgw.good, hgw.stk, (fun h0 => ⟨he7 (HCN.out h0).1, (HCN.out h0).2⟩), by omega, HL2⟩
          case measure => simp [intOf]; omega
        | false =>
          have HR : Hid (RL = (E', s')) := by show _ = _; rw [← HL.out, localsLoopN_stop hz]
          have hgb := go2_want hT (f := bs [98, 101, 103, 105, 110]) (bs_ne _ (by simp)) hg6 hs6
          have hNb := need_any hT hD.rw hg6 hs6 s'.next (fun _ => rfl) (bs [98, 101, 103, 105, 110]) (hfx _ (by decide))
          have HE7 : Hid ((want T (bs [98, 101, 103, 105, 110]) s').code = 0 → mdE mm = E') := fun h0 => (HE6.out (want_ok2 h0)).1
          have HFR2 : Hid (∀ n0, mm = some n0 → (want T (bs [98, 101, 103, 105, 110]) s').code = 0 → 0 < n0.E.glob.length ∧ n0.E.fresh = true ∧ E' = some n0.E) := by
            show ∀ n0, _
            intro n0 hn0 h0
            have h8 := want_ok2 h0
            have h9 := (HE6.out h8).1
            rw [hn0] at h9
            obtain ⟨E0, hE0⟩ : ∃ E0, mdE m = some E0 := by
              have h7 := HSM.out
              rw [hn0] at h7
              cases m with
              | none => simp at h7
              | some n1 => exact ⟨_, rfl⟩
            have h6 := HFR.out E0 hE0 n0.E (by rw [HR.out]; exact h9.symm) (by rw [HR.out]; exact h8)
            exact ⟨h6.1, h6.2, h9.symm⟩
          have HRN2 : Hid (RN = (E'.map Env.leave, want T (bs [59]) (want T (bs [101, 110, 100]) (listOf T (stmtN T (E'.map Env.enter) 14) (want T (bs [98, 101, 103, 105, 110]) s')).2))) := by show _ = _; rw [HRN.out, HR.out]
          generalize want T (bs [98, 101, 103, 105, 110]) s' = sb at *
          have hgbn : sb.next < T.length := hgb.good
          clear HL hz HE6 HR HRN HFR HRL HRH HcE HRE HIS HCH HC5 He4
          go_upto_region 20 with (first
            | (go_at_call 123; refine hNb.mono ?_; rintro e w7 ⟨rfl, hP7, hk7⟩; have hD7 := hD.step hP7 hk7; clear hP7 hk7))
          obtain ⟨B2, hB2⟩ : ∃ B2 : Bool, B2 = (mm.isSome && decide (sb.code = 0)) := ⟨_, rfl⟩
          have HB2 : Hid (B2 = (mm.isSome && decide (sb.code = 0))) := hB2
          clear hB2
          go_cut [87] (fun s87 wx => s87 = .bool B2 ∧ RD wb tb cap T w0 mm wx sb)
          case first =>
            have hmo2 := hD7.rw.mode_
            have hfa2 := hD7.rw.fault
            cases hmm : mm with
            | none =>
              have e9 : B2 = false := by rw [HB2.out, hmm]; rfl
              subst e9
              rw [hmm] at hmo2
              simp only [mdI] at hmo2
              clear HB2
              go_wp2_with fail
              go_meet
              exact ⟨rfl, hD7⟩
            | some n0 =>
              rw [hmm] at hmo2
              simp only [mdI] at hmo2
              by_cases h0 : sb.code = 0
              · have e9 : B2 = true := by rw [HB2.out, hmm]; simp [h0]
                subst e9
                rw [h0] at hfa2
                clear HB2 h0
                go_wp2_with fail
                go_meet
                exact ⟨rfl, hD7⟩
              · have e9 : B2 = false := by rw [HB2.out, hmm]; simp [h0]
                subst e9
                have hz' : ((sb.code : Int) == 0) = false := by simp; omega
                clear HB2 h0
                go_wp2_with fail
                go_meet
                exact ⟨rfl, hD7⟩
          case rest =>
          obtain ⟨rfl, hD8⟩ := hcut
          go_upto_if 87 with fail
          go_cut [11, 12] (fun _ _ wx => ∃ m9, m9.isSome = m.isSome ∧ Hid (sb.code = 0 → mdE m9 = E'.map Env.enter) ∧ RD wb tb cap T w0 m9 wx sb)
          case first =>
            cases hBB : B2 with
            | false =>
              have HX : Hid (∃ m9, m9.isSome = m.isSome ∧ Hid (sb.code = 0 → mdE m9 = E'.map Env.enter) ∧ RD wb tb cap T w0 m9 wc sb) := by
                show ∃ m9, _
                refine ⟨mm, HSM.out, fun h0 => ?_, hD8⟩
                have h9 := HB2.out
                rw [hBB, h0] at h9
                cases hmm : mm with
                | none => have h8 := HE7.out h0; rw [hmm] at h8; rw [← h8]; rfl
                | some n0 => rw [hmm] at h9; simp at h9
              clear hBB HB2
              go_wp2_with fail
              go_meet
              exact HX.out
            | true =>
              have h99 : mm.isSome = true ∧ sb.code = 0 := by have h9 := HB2.out; rw [hBB] at h9; simpa using h9.symm
              obtain ⟨n0, hn0⟩ := Option.isSome_iff_exists.1 h99.1
              have h0 := h99.2
              obtain ⟨hgl0, hfr, hE'⟩ := HFR2.out n0 hn0 h0
              have hHS : (some n0 : Option Nm).isSome = m.isSome := by rw [← hn0]; exact HSM.out
              have hD9 : RD wb tb cap T w0 (some n0) wc sb := hn0 ▸ hD8
              have hE9 := hD9.rw.env n0 rfl
              have hO9 := hD9.own n0 rfl
              obtain ⟨xs, hx⟩ := hO9.g
              obtain ⟨gb, cp, hgv, hgb0, hgb1⟩ := hx.form hgl0
              obtain ⟨L, hL⟩ : ∃ L, n0.E.glob.length = L + 1 := ⟨n0.E.glob.length - 1, by omega⟩
              have hgc := hE9.gcell
              have hlen := hE9.glen
              have hhl := hE9.hlen
              have hrow : wc.ownsRow w0.heap.size 207 6 (.slice (some ⟨gb, 0, none⟩) n0.E.glob.length cp) n0.E.glob.length xs := hgv ▸ hx
              have hlt9 := hD9.lt
              obtain ⟨v5, c5⟩ : ∃ v, wc.cell? ⟨gb, L * 6 + 5, none⟩ = some v := by
                have e := hrow.cellAt (L * 6 + 5) (by omega)
                have hxl : xs.length = n0.E.glob.length * 6 := hrow.1
                exact ⟨_, e.trans (List.getElem?_eq_getElem (by omega))⟩
              have f5 := hrow.frozenAt (L * 6 + 5)
              have c4 : wc.cell? ⟨gb, L * 6 + 4, none⟩ = some (.slice none 0 0) := by
                have h9 := hO9.last hfr gb (by rw [hgv]; rfl)
                rw [hL] at h9; exact h9
              have HS5 : Hid (∀ u, RD wb tb cap T w0 (some n0.stale) (wc.setCell ⟨gb, L * 6 + 5, none⟩ u) sb) := fun u => (hD9.setGlob hgv L 5 (.inr rfl) u).stale
              have HC4 : Hid (∀ u, (wc.setCell ⟨gb, L * 6 + 5, none⟩ u).cell? ⟨gb, L * 6 + 4, none⟩ = some (.slice none 0 0)) := fun u => by rw [World.cell?_setCell_other _ _ _ _ (by simp)]; exact c4
              have hH0 : ∃ hp hcap, n0.hv = .slice hp n0.E.here.length hcap := by
                rcases hE9.h with ⟨e1, e2⟩ | ⟨b, cp2, e1, _, _⟩
                · exact ⟨none, 0, by rw [e1, e2]; rfl⟩
                · exact ⟨_, _, e1⟩
              obtain ⟨hp, hcap, hhv⟩ := hH0
              rw [hgv, hL] at hgc
              have HGV : Hid (n0.gv = .slice (some ⟨gb, 0, none⟩) n0.E.glob.length cp) := hgv
              have HHV : Hid (n0.hv = .slice hp n0.E.here.length hcap) := hhv
              have HLL : Hid (n0.E.glob.length = L + 1) := hL
              have HEN : Hid (sb.code = 0 → mdE (some n0.stale.enter) = E'.map Env.enter) := fun _ => by rw [hE']; rfl
              have hLb : L ≤ 600 := by omega
              clear hBB HB2 hE' hfr hgv hhv hL hrow hx hO9 hE9 h99 hgl0 c4
              go_wp2_with fail
              go_loopw [12] (fun j wr => ∃ (jj : Nat) (cv : Value) (zs : List Value), j = .int .i64 (jj : Int) ∧ jj ≤ n0.E.here.length ∧ RD wb tb cap T w0 (some n0.stale) wr sb ∧ wr.cell? ⟨gb, L * 6 + 4, none⟩ = some cv ∧ wr.ownsRow w0.heap.size 9 1 cv jj zs ∧ ∀ b, cv.ownBlock = some b → b ≠ gb ∧ n0.hv.ownBlock ≠ some b) (fun j _ => n0.E.here.length - (intOf j).toNat)
              case atStart => exact ⟨0, .slice none 0 0, [], rfl, Nat.zero_le _, HS5.out _, HC4.out _, World.ownsRow_nil _ _ _ _, fun b hb => by simp [Value.ownBlock] at hb⟩
              case round =>
                obtain ⟨jj, cv, zs, rfl, hjj, hDr, ccv, hcown, hcap2⟩ := hrel
                have hEr := hDr.rw.env n0.stale rfl
                have hOr := hDr.own n0.stale rfl
                have hhcr : wr.cell? ⟨wb, 5, none⟩ = some (.slice hp n0.E.here.length hcap) := by have h9 := hEr.hcell; rw [← HHV.out]; exact h9
                have hgcr : wr.cell? ⟨wb, 4, none⟩ = some (.slice (some ⟨gb, 0, none⟩) (L + 1) cp) := by have h9 := hEr.gcell; rw [← HLL.out, ← HGV.out]; exact h9
                by_cases hlt : jj < n0.E.here.length
                · have hlti : (jj : Int) < ((n0.E.here.length : Nat) : Int) := by omega
                  obtain ⟨hb, hc3, hhv3, hcells⟩ := hEr.h.block (by show 0 < n0.E.here.length; omega)
                  obtain ⟨cnm, _, _⟩ := hcells jj hlt
                  have hhcr2 : wr.cell? ⟨wb, 5, none⟩ = some (.slice (some ⟨hb, 0, none⟩) n0.E.here.length hc3) := by have h9 := hEr.hcell; rw [hhv3] at h9; exact h9
                  obtain ⟨xr, hxr⟩ := hOr.g
                  have hxr2 : wr.ownsRow w0.heap.size 207 6 (.slice (some ⟨gb, 0, none⟩) n0.E.glob.length cp) n0.E.glob.length xr := by have h9 := hxr; rw [show n0.stale.gv = .slice (some ⟨gb, 0, none⟩) n0.E.glob.length cp from HGV.out] at h9; exact h9
                  have f4 := hxr2.frozenAt (L * 6 + 4)
                  have hgbl := (hxr2.lt gb rfl).2
                  have hbs := hDr.base
                  obtain ⟨iS, hiS, hs0, hs1, hs2⟩ := info_parts Tryz.infoString
                  have hne : cv.ownBlock ≠ some gb := fun e => (hcap2 gb e).1 rfl
                  have hncv : ∀ b, cv.ownBlock = some b → b < wr.heap.size := fun b hb9 => (hcown.lt b hb9).2
                  have HcB : Hid (∀ B, (wr.alloc B).drew.cell? ⟨gb, L * 6 + 4, none⟩ = some cv) := fun B => by
                    show (wr.alloc B).cell? ⟨gb, L * 6 + 4, none⟩ = some cv
                    rw [(below_new wr B).cell (p := ⟨gb, L * 6 + 4, none⟩) hgbl]; exact ccv
                  have HzB : Hid (∀ B, (wr.alloc B).drew.frozen? ⟨gb, L * 6 + 4, none⟩ = false) := fun B => by
                    show (wr.alloc B).frozen? ⟨gb, L * 6 + 4, none⟩ = false
                    rw [(below_new wr B).frozen (p := ⟨gb, L * 6 + 4, none⟩) hgbl]; exact f4
                  generalize (n0.stale.E.here.getD jj default).name = nm at *
                  have HA : Hid (∀ (B : Obj) (W4 : World) (g cp2 : Nat), (wr.alloc B).drew.grownBy W4 cv.ownBlock → W4.ownsRow w0.heap.size 9 1 (.slice (some ⟨g, 0, none⟩) (jj + 1) cp2) (jj + 1) (zs ++ [.string nm]) → (cv.ownBlock = some g ∨ g = wr.heap.size + 1) →
                      RD wb tb cap T w0 (some n0.stale) (W4.setCell ⟨gb, L * 6 + 4, none⟩ (.slice (some ⟨g, 0, none⟩) (jj + 1) cp2)) sb ∧ (W4.setCell ⟨gb, L * 6 + 4, none⟩ (.slice (some ⟨g, 0, none⟩) (jj + 1) cp2)).cell? ⟨gb, L * 6 + 4, none⟩ = some (.slice (some ⟨g, 0, none⟩) (jj + 1) cp2) ∧
                      (W4.setCell ⟨gb, L * 6 + 4, none⟩ (.slice (some ⟨g, 0, none⟩) (jj + 1) cp2)).ownsRow w0.heap.size 9 1 (.slice (some ⟨g, 0, none⟩) (jj + 1) cp2) (jj + 1) (zs ++ [.string nm]) ∧ ∀ b, (Value.slice (some ⟨g, 0, none⟩) (jj + 1) cp2).ownBlock = some b → b ≠ gb ∧ n0.hv.ownBlock ≠ some b) := by
                    show ∀ B W4 g cp2, _
                    intro B W4 g cp2 hgr ho1 hat9
                    have hgne : g ≠ gb := by
                      rcases hat9 with h9 | h9
                      · exact (hcap2 g h9).1
                      · omega
                    have hghv : n0.hv.ownBlock ≠ some g := by
                      rcases hat9 with h9 | h9
                      · exact (hcap2 g h9).2
                      · intro e
                        obtain ⟨yr, hyr⟩ := hOr.h
                        have := (hyr.lt g e).2
                        omega
                    have hDa : RD wb tb cap T w0 (some n0.stale) (wr.alloc B).drew sb := hDr.below ((below_new wr B).drew)
                    have hDg : RD wb tb cap T w0 (some n0.stale) W4 sb := hDa.grownElse hgr (fun k hk => (hcown.lt k hk).1) (fun n hn b hb9 => by
                      cases hn
                      refine ⟨fun e => ?_, (hcap2 b hb9).2⟩
                      have e2 : n0.gv.ownBlock = some b := e
                      rw [HGV.out] at e2
                      have e3 : gb = b := by simpa [Value.ownBlock] using e2
                      exact (hcap2 b hb9).1 e3.symm)
                    have hgc4 : W4.cell? ⟨gb, L * 6 + 4, none⟩ = some cv := by
                      rw [hgr.cell_far _ (by simp; omega) (Ne.symm hne)]; exact HcB.out B
                    refine ⟨hDg.setGlob (n := n0.stale) HGV.out L 4 (.inl ⟨rfl, rfl⟩) _, World.cell?_setCell_same _ _ _ hgc4, ownsRow_setCell_other ho1 (by simp [Value.ownBlock]; exact hgne) _, fun b hb9 => ?_⟩
                    have e3 : b = g := by simp [Value.ownBlock] at hb9; exact hb9.symm
                    subst e3
                    exact ⟨hgne, hghv⟩
                  have hLi : (L : Int) < (L : Int) + 1 := by omega
                  have hwl := hDr.rw.lt
                  have hbl : hb < wr.heap.size := lt_of_cell cnm
                  have hnwb : cv.ownBlock ≠ some wb := fun e => by have h9 := (hcown.lt wb e).1; have h8 := hDr.lt; omega
                  have hgw : gb ≠ wb := by have h9 := (hxr2.lt gb rfl).1; have h8 := hDr.lt; omega
                  have hgh : gb ≠ hb := fun e => hOr.apart gb (by rw [show n0.stale.gv = .slice (some ⟨gb, 0, none⟩) n0.E.glob.length cp from HGV.out]; rfl) (by rw [hhv3, e]; rfl)
                  have hnhb : cv.ownBlock ≠ some hb := fun e => (hcap2 hb e).2 (by show n0.stale.hv.ownBlock = some hb; rw [hhv3]; rfl)
                  clear hEr hOr hcap2 hxr hxr2 hcells hhv3 hhcr
                  go_wp2_with fail
                  have HSB : Hid (∀ B, (wr.alloc B).drew.cell? ⟨wb, 4, none⟩ = some (.slice (some ⟨gb, 0, none⟩) (L + 1) cp) ∧ (wr.alloc B).drew.cell? ⟨wb, 5, none⟩ = some (.slice (some ⟨hb, 0, none⟩) n0.E.here.length hc3) ∧ (wr.alloc B).drew.cell? ⟨hb, jj * 6, none⟩ = some (.string nm)) := fun B => ⟨by show (wr.alloc B).cell? _ = _; rw [(below_new wr B).cell (p := ⟨wb, 4, none⟩) hwl]; exact hgcr, by show (wr.alloc B).cell? _ = _; rw [(below_new wr B).cell (p := ⟨wb, 5, none⟩) hwl]; exact hhcr2, by show (wr.alloc B).cell? _ = _; rw [(below_new wr B).cell (p := ⟨hb, jj * 6, none⟩) hbl]; exact cnm⟩
                  refine wp_region_held_drew (S := fun w' => w'.cell? ⟨wb, 4, none⟩ = some (.slice (some ⟨gb, 0, none⟩) (L + 1) cp) ∧ w'.cell? ⟨wb, 5, none⟩ = some (.slice (some ⟨hb, 0, none⟩) n0.E.here.length hc3) ∧ w'.cell? ⟨hb, jj * 6, none⟩ = some (.string nm)) (by kernel_rfl) ⟨hgcr, hhcr2, cnm⟩ (fun hHeld => ?_)
                  refine wpAnyH_take (i := 0) (v := ?_) rfl (by kernel_rfl) (by kernel_rfl) (by kernel_rfl) (fun _ _ _ h => h) (Or.inl ⟨by rfl, ?_⟩) (by assumption) ?_
                  rotate_left
                  focus (intro w hSw; (try dsimp only at hSw); go_simp; try with_reducible rfl)
                  (try simp only [Act.put, List.setIfInBounds_toArray, List.set_cons_zero, List.set_cons_succ])
                  refine wpAnyH_take (i := 1) (v := ?_) rfl (by kernel_rfl) (by kernel_rfl) (by kernel_rfl) (fun _ _ _ h => h) (Or.inl ⟨by rfl, ?_⟩) (by assumption) ?_
                  rotate_left
                  focus (intro w hSw; (try dsimp only at hSw); go_simp; try with_reducible rfl)
                  (try simp only [Act.put, List.setIfInBounds_toArray, List.set_cons_zero, List.set_cons_succ])
                  refine wpAnyH_take (i := 2) (v := ?_) rfl (by kernel_rfl) (by kernel_rfl) (by kernel_rfl) (fun _ _ _ h => h) (Or.inl ⟨by rfl, ?_⟩) (by assumption) ?_
                  rotate_left
                  focus (intro w hSw; (try dsimp only at hSw); go_simp; try with_reducible rfl)
                  (try simp only [Act.put, List.setIfInBounds_toArray, List.set_cons_zero, List.set_cons_succ])
                  refine wpAnyH_take (i := 3) (v := ?_) rfl (by kernel_rfl) (by kernel_rfl) (by kernel_rfl) (fun _ _ _ h => h) (Or.inl ⟨by rfl, ?_⟩) (by assumption) ?_
                  rotate_left
                  focus (intro w hSw; (try dsimp only at hSw); go_simp; try with_reducible rfl)
                  (try simp only [Act.put, List.setIfInBounds_toArray, List.set_cons_zero, List.set_cons_succ])
                  refine wpAnyH_take (i := 4) (v := ?_) rfl (by kernel_rfl) (by kernel_rfl) (by kernel_rfl) (fun _ _ _ h => h) (Or.inl ⟨by rfl, ?_⟩) (by assumption) ?_
                  rotate_left
                  focus (intro w hSw; (try dsimp only at hSw); go_simp; try with_reducible rfl)
                  (try simp only [Act.put, List.setIfInBounds_toArray, List.set_cons_zero, List.set_cons_succ])
                  refine wpAnyH_take (i := 5) (v := ?_) rfl (by kernel_rfl) (by kernel_rfl) (by kernel_rfl) (fun _ _ _ h => h) (Or.inl ⟨by rfl, ?_⟩) (by assumption) ?_
                  rotate_left
                  focus (intro w hSw; (try dsimp only at hSw); go_simp; try with_reducible rfl)
                  (try simp only [Act.put, List.setIfInBounds_toArray, List.set_cons_zero, List.set_cons_succ])
                  refine wpAnyH_take (i := 6) (v := ?_) rfl (by kernel_rfl) (by kernel_rfl) (by kernel_rfl) (fun _ _ _ h => h) (Or.inl ⟨by rfl, ?_⟩) (by assumption) ?_
                  rotate_left
                  focus (intro w hSw; (try dsimp only at hSw); go_simp; try with_reducible rfl)
                  (try simp only [Act.put, List.setIfInBounds_toArray, List.set_cons_zero, List.set_cons_succ])
                  refine wpAnyH_take (i := 7) (v := ?_) rfl (by kernel_rfl) (by kernel_rfl) (by kernel_rfl) (fun _ _ _ h => h) (Or.inl ⟨by rfl, ?_⟩) (by assumption) ?_
                  rotate_left
                  focus (intro w hSw; (try dsimp only at hSw); go_simp; try with_reducible rfl)
                  (try simp only [Act.put, List.setIfInBounds_toArray, List.set_cons_zero, List.set_cons_succ])
                  refine wpAnyH_take (i := 8) (v := ?_) rfl (by kernel_rfl) (by kernel_rfl) (by kernel_rfl) (fun _ _ _ h => h) (Or.inl ⟨by rfl, ?_⟩) (by assumption) ?_
                  rotate_left
                  focus (intro w hSw; (try dsimp only at hSw); go_simp; try with_reducible rfl)
                  (try simp only [Act.put, List.setIfInBounds_toArray, List.set_cons_zero, List.set_cons_succ])
                  refine wpAnyH_take (i := 9) (v := ?_) rfl (by kernel_rfl) (by kernel_rfl) (by kernel_rfl) (fun _ _ _ h => h) (Or.inl ⟨by rfl, ?_⟩) (by assumption) ?_
                  rotate_left
                  focus (intro w hSw; (try dsimp only at hSw); go_simp; try with_reducible rfl)
                  (try simp only [Act.put, List.setIfInBounds_toArray, List.set_cons_zero, List.set_cons_succ])
                  refine wpAnyH_take (i := 10) (v := ?_) rfl (by kernel_rfl) (by kernel_rfl) (by kernel_rfl) (fun _ _ _ h => h) (Or.inl ⟨by rfl, ?_⟩) (by assumption) ?_
                  rotate_left
                  focus (intro w hSw; (try dsimp only at hSw); go_simp; try with_reducible rfl)
                  (try simp only [Act.put, List.setIfInBounds_toArray, List.set_cons_zero, List.set_cons_succ])
                  refine wpAnyH_take (i := 11) (v := ?_) rfl (by kernel_rfl) (by kernel_rfl) (by kernel_rfl) (fun _ _ _ h => h) (Or.inl ⟨by rfl, ?_⟩) (by assumption) ?_
                  rotate_left
                  focus (intro w hSw; (try dsimp only at hSw); go_simp; try with_reducible rfl)
                  (try simp only [Act.put, List.setIfInBounds_toArray, List.set_cons_zero, List.set_cons_succ])
                  refine wpAnyH_take (i := 13) (v := ?_) rfl (by kernel_rfl) (by kernel_rfl) (by kernel_rfl) (fun _ _ _ h => h) (Or.inl ⟨by rfl, ?_⟩) (by assumption) ?_
                  rotate_left
                  focus (intro w hSw; (try dsimp only at hSw); go_simp; try with_reducible rfl)
                  (try simp only [Act.put, List.setIfInBounds_toArray, List.set_cons_zero, List.set_cons_succ])
                  refine wpAnyH_take (i := 14) (v := ?_) rfl (by kernel_rfl) (by kernel_rfl) (by kernel_rfl) (fun _ _ _ h => h) (Or.inl ⟨by rfl, ?_⟩) (by assumption) ?_
                  rotate_left
                  focus (intro w hSw; (try dsimp only at hSw); go_simp; try with_reducible rfl)
                  (try simp only [Act.put, List.setIfInBounds_toArray, List.set_cons_zero, List.set_cons_succ])
                  refine wpAnyH_take (i := 15) (v := ?_) rfl (by kernel_rfl) (by kernel_rfl) (by kernel_rfl) (fun _ _ _ h => h) (Or.inl ⟨by rfl, ?_⟩) (by assumption) ?_
                  rotate_left
                  focus (intro w hSw; (try dsimp only at hSw); go_simp; try with_reducible rfl)
                  (try simp only [Act.put, List.setIfInBounds_toArray, List.set_cons_zero, List.set_cons_succ])
                  refine wpAnyH_take (i := 16) (v := ?_) rfl (by kernel_rfl) (by kernel_rfl) (by kernel_rfl) (fun _ _ _ h => h) (Or.inl ⟨by rfl, ?_⟩) (by assumption) ?_
                  rotate_left
                  focus (intro w hSw; (try dsimp only at hSw); go_simp; try with_reducible rfl)
                  (try simp only [Act.put, List.setIfInBounds_toArray, List.set_cons_zero, List.set_cons_succ])
                  refine wpAnyH_take (i := 17) (v := ?_) rfl (by kernel_rfl) (by kernel_rfl) (by kernel_rfl) (fun _ _ _ h => h) (Or.inl ⟨by rfl, ?_⟩) (by assumption) ?_
                  rotate_left
                  focus (intro w hSw; (try dsimp only at hSw); go_simp; try with_reducible rfl)
                  (try simp only [Act.put, List.setIfInBounds_toArray, List.set_cons_zero, List.set_cons_succ])
                  refine wpAnyH_take (i := 18) (v := ?_) rfl (by kernel_rfl) (by kernel_rfl) (by kernel_rfl) (fun _ _ _ h => h) (Or.inl ⟨by rfl, ?_⟩) (by assumption) ?_
                  rotate_left
                  focus (intro w hSw; (try dsimp only at hSw); go_simp; try with_reducible rfl)
                  (try simp only [Act.put, List.setIfInBounds_toArray, List.set_cons_zero, List.set_cons_succ])
                  refine wpAnyH_take (i := 19) (v := ?_) rfl (by kernel_rfl) (by kernel_rfl) (by kernel_rfl) (fun _ _ _ h => h) (Or.inl ⟨by rfl, ?_⟩) (by assumption) ?_
                  rotate_left
                  focus (intro w hSw; (try dsimp only at hSw); go_simp; try with_reducible rfl)
                  (try simp only [Act.put, List.setIfInBounds_toArray, List.set_cons_zero, List.set_cons_succ])
                  refine wpAnyH_take (i := 20) (v := ?_) rfl (by kernel_rfl) (by kernel_rfl) (by kernel_rfl) (fun _ _ _ h => h) (Or.inl ⟨by rfl, ?_⟩) (by assumption) ?_
                  rotate_left
                  focus (intro w hSw; (try dsimp only at hSw); go_simp; try with_reducible rfl)
                  (try simp only [Act.put, List.setIfInBounds_toArray, List.set_cons_zero, List.set_cons_succ])
                  refine wpAnyH_ready (rs := [12, 21]) (by kernel_rfl) (by simp) ?_
                  refine AllReadyH.cons rfl (fun K hK => ?_) (AllReadyH.cons rfl (fun K hK => ?_) AllReadyH.nil)
                  · go_simp
                    refine hK.out _ _ ⟨hgcr, hhcr2, cnm⟩ (fun _ => ?_)
                    clear hK K
                    try simp only [Act.put, List.setIfInBounds_toArray, List.set_cons_zero, List.set_cons_succ]
                    refine wpAnyH_ready (rs := [21]) (by kernel_rfl) (by simp) ?_
                    refine AllReadyH.cons rfl (fun K hK => ?_) AllReadyH.nil
                    go_simp
                    refine hK.out _ _ (HSB.out _) (fun _ => ?_)
                    clear hK K
                    try simp only [Act.put, List.setIfInBounds_toArray, List.set_cons_zero, List.set_cons_succ]
                    refine wpAnyH_ready (rs := [22]) (by kernel_rfl) (by simp) ?_
                    refine AllReadyH.cons rfl (fun K hK => ?_) AllReadyH.nil
                    refine step_append_lies _ (by rfl) _ _ _ (by rfl) w0.heap.size 9 iS _ 1 16 Tryz.underlying45 hiS hs0 hs1 hs2 rfl (by omega) cv jj zs (by rfl) ((hcown.alloc _).drew)
                      ⟨wr.heap.size, 0, none⟩ 1 1 [.string nm] (by rfl) (by rfl) (World.news_of_block (cs := #[.string nm]) (t := 9) (fr := (0, 0)) (heap_alloc_new wr _)) (by simp [Value.oneCell'])
                      (by omega) (by unfold maxLen; omega) (by omega) (by simp; omega) (wr.heap.size + 1) (by simp) ?_
                    intro gg cp9 w19 hown9 hgrow9 hat9 hlt9b
                    have hw5 : w19.cell? ⟨gb, L * 6 + 4, none⟩ = some cv := (by rw [hgrow9.cell_far _ (by simp; omega) (Ne.symm hne)]; exact HcB.out _)
                    have hf5 : w19.frozen? ⟨gb, L * 6 + 4, none⟩ = false := (by rw [hgrow9.frozen_far _ (by simp; omega) (Ne.symm hne)]; exact HzB.out _)
                    refine hK.out _ _ ⟨(by rw [hgrow9.cell_far _ (by simp; omega) (Ne.symm hnwb)]; exact (HSB.out _).1), (by rw [hgrow9.cell_far _ (by simp; omega) (Ne.symm hnwb)]; exact (HSB.out _).2.1), (by rw [hgrow9.cell_far _ (by simp; omega) (Ne.symm hnhb)]; exact (HSB.out _).2.2)⟩ (fun hHeld9 => ?_)
                    clear hK K
                    try simp only [Act.put, List.setIfInBounds_toArray, List.set_cons_zero, List.set_cons_succ]
                    refine wpAnyH_take (i := 23) (v := ?_) rfl (by kernel_rfl) (by kernel_rfl) (by kernel_rfl) (fun _ _ _ h => h) (Or.inl ⟨by rfl, ?_⟩) (by assumption) ?_
                    rotate_left
                    focus (intro w hSw; (try dsimp only at hSw); go_simp; try with_reducible rfl)
                    (try simp only [Act.put, List.setIfInBounds_toArray, List.set_cons_zero, List.set_cons_succ])
                    refine wpAnyH_take (i := 24) (v := ?_) rfl (by kernel_rfl) (by kernel_rfl) (by kernel_rfl) (fun _ _ _ h => h) (Or.inl ⟨by rfl, ?_⟩) (by assumption) ?_
                    rotate_left
                    focus (intro w hSw; (try dsimp only at hSw); go_simp; try with_reducible rfl)
                    (try simp only [Act.put, List.setIfInBounds_toArray, List.set_cons_zero, List.set_cons_succ])
                    refine wpAnyH_ready (rs := [25]) (by kernel_rfl) (by simp) ?_
                    refine AllReadyH.cons rfl (fun K hK => ?_) AllReadyH.nil
                    go_simp
                    refine hK.out _ _ ⟨(by rw [World.cell?_setCell_other _ _ _ _ (by intro e; have e9 := congrArg Addr.block e; exact hgw e9)]; exact hHeld9.1), (by rw [World.cell?_setCell_other _ _ _ _ (by intro e; have e9 := congrArg Addr.block e; exact hgw e9)]; exact hHeld9.2.1), (by rw [World.cell?_setCell_other _ _ _ _ (by intro e; have e9 := congrArg Addr.block e; exact hgh e9)]; exact hHeld9.2.2)⟩ (fun _ => ?_)
                    refine wpAnyH_done (by kernel_rfl) ?_ _
                    clear hK K
                    go_wp2_with fail
                    go_roundw
                    all_goals first
                      | exact ⟨jj + 1, _, zs ++ [.string nm], by go_num, by omega, HA.out _ _ gg cp9 hgrow9 hown9 (by simpa using hat9)⟩
                      | (simp [intOf]; omega)
                  · go_simp
                    refine hK.out _ _ (HSB.out _) (fun _ => ?_)
                    clear hK K
                    try simp only [Act.put, List.setIfInBounds_toArray, List.set_cons_zero, List.set_cons_succ]
                    refine wpAnyH_ready (rs := [12]) (by kernel_rfl) (by simp) ?_
                    refine AllReadyH.cons rfl (fun K hK => ?_) AllReadyH.nil
                    have hcva := HcB.out
                    go_simp
                    refine hK.out _ _ (HSB.out _) (fun _ => ?_)
                    clear hK K
                    try simp only [Act.put, List.setIfInBounds_toArray, List.set_cons_zero, List.set_cons_succ]
                    refine wpAnyH_ready (rs := [22]) (by kernel_rfl) (by simp) ?_
                    refine AllReadyH.cons rfl (fun K hK => ?_) AllReadyH.nil
                    refine step_append_lies _ (by rfl) _ _ _ (by rfl) w0.heap.size 9 iS _ 1 16 Tryz.underlying45 hiS hs0 hs1 hs2 rfl (by omega) cv jj zs (by rfl) ((hcown.alloc _).drew)
                      ⟨wr.heap.size, 0, none⟩ 1 1 [.string nm] (by rfl) (by rfl) (World.news_of_block (cs := #[.string nm]) (t := 9) (fr := (0, 0)) (heap_alloc_new wr _)) (by simp [Value.oneCell'])
                      (by omega) (by unfold maxLen; omega) (by omega) (by simp; omega) (wr.heap.size + 1) (by simp) ?_
                    intro gg cp9 w19 hown9 hgrow9 hat9 hlt9b
                    have hw5 : w19.cell? ⟨gb, L * 6 + 4, none⟩ = some cv := (by rw [hgrow9.cell_far _ (by simp; omega) (Ne.symm hne)]; exact HcB.out _)
                    have hf5 : w19.frozen? ⟨gb, L * 6 + 4, none⟩ = false := (by rw [hgrow9.frozen_far _ (by simp; omega) (Ne.symm hne)]; exact HzB.out _)
                    refine hK.out _ _ ⟨(by rw [hgrow9.cell_far _ (by simp; omega) (Ne.symm hnwb)]; exact (HSB.out _).1), (by rw [hgrow9.cell_far _ (by simp; omega) (Ne.symm hnwb)]; exact (HSB.out _).2.1), (by rw [hgrow9.cell_far _ (by simp; omega) (Ne.symm hnhb)]; exact (HSB.out _).2.2)⟩ (fun hHeld9 => ?_)
                    clear hK K
                    try simp only [Act.put, List.setIfInBounds_toArray, List.set_cons_zero, List.set_cons_succ]
                    refine wpAnyH_take (i := 23) (v := ?_) rfl (by kernel_rfl) (by kernel_rfl) (by kernel_rfl) (fun _ _ _ h => h) (Or.inl ⟨by rfl, ?_⟩) (by assumption) ?_
                    rotate_left
                    focus (intro w hSw; (try dsimp only at hSw); go_simp; try with_reducible rfl)
                    (try simp only [Act.put, List.setIfInBounds_toArray, List.set_cons_zero, List.set_cons_succ])
                    refine wpAnyH_take (i := 24) (v := ?_) rfl (by kernel_rfl) (by kernel_rfl) (by kernel_rfl) (fun _ _ _ h => h) (Or.inl ⟨by rfl, ?_⟩) (by assumption) ?_
                    rotate_left
                    focus (intro w hSw; (try dsimp only at hSw); go_simp; try with_reducible rfl)
                    (try simp only [Act.put, List.setIfInBounds_toArray, List.set_cons_zero, List.set_cons_succ])
                    refine wpAnyH_ready (rs := [25]) (by kernel_rfl) (by simp) ?_
                    refine AllReadyH.cons rfl (fun K hK => ?_) AllReadyH.nil
                    go_simp
                    refine hK.out _ _ ⟨(by rw [World.cell?_setCell_other _ _ _ _ (by intro e; have e9 := congrArg Addr.block e; exact hgw e9)]; exact hHeld9.1), (by rw [World.cell?_setCell_other _ _ _ _ (by intro e; have e9 := congrArg Addr.block e; exact hgw e9)]; exact hHeld9.2.1), (by rw [World.cell?_setCell_other _ _ _ _ (by intro e; have e9 := congrArg Addr.block e; exact hgh e9)]; exact hHeld9.2.2)⟩ (fun _ => ?_)
                    refine wpAnyH_done (by kernel_rfl) ?_ _
                    clear hK K
                    go_wp2_with fail
                    go_roundw
                    all_goals first
                      | exact ⟨jj + 1, _, zs ++ [.string nm], by go_num, by omega, HA.out _ _ gg cp9 hgrow9 hown9 (by simpa using hat9)⟩
                      | (simp [intOf]; omega)
                · have hjl : ((n0.E.here.length : Nat) : Int) ≤ (jj : Int) := by omega
                  have hins := hEr.ins
                  have hfr6 := hDr.rw.frz 6
                  have HEnt : Hid (RD wb tb cap T w0 (some n0.stale.enter) (wr.setCell ⟨wb, 6, none⟩ (.int .i64 (L : Int))) sb) := by
                    have h9 := hDr.enter (by show 0 < n0.E.glob.length; rw [HLL.out]; omega)
                    rw [show ((n0.stale.E.glob.length : Nat) : Int) - 1 = (L : Int) from by show ((n0.E.glob.length : Nat) : Int) - 1 = _; rw [HLL.out]; omega] at h9
                    exact h9
                  clear hEr hOr hcap2
                  go_wp2_with fail
                  go_meet
                  exact ⟨some n0.stale.enter, hHS, HEN.out, HEnt.out⟩
          case rest =>
            obtain ⟨m9, hs9, He9, hD9⟩ := hcut
            have eL : (listOf T (stmtN T (mdE m9) 14) sb).2 = (listOf T (stmtN T (E'.map Env.enter) 14) sb).2 := by
              by_cases h0 : sb.code = 0
              · rw [He9.out h0]
              · rw [(go2_list hT (mdE m9) 14 hgb.good hgb.stk).still h0, (go2_list hT (E'.map Env.enter) 14 hgb.good hgb.stk).still h0]
            have hLi : Calls Tryz.prog 122 #[.pointer (some ⟨wb, 0, none⟩), .int .i64 (sb.next : Int), .int .i64 1, .bool false] wc (WSt wb tb cap T m9 (listOf T (stmtN T (E'.map Env.enter) 14) sb).2 wc) := by
              have h9 := lists_ok (m := m9) hT hfx wc sb sb.next false hD9.rw hgb.good hgb.stk (fun _ => rfl)
              rw [← eL]; exact h9
            have hgl := go2_list hT (E'.map Env.enter) 14 hgb.good hgb.stk
            have hge := go2_want hT (f := bs [101, 110, 100]) (bs_ne _ (by simp)) hgl.good hgl.stk
            have HC9 : Hid ((want T (bs [59]) (want T (bs [101, 110, 100]) (listOf T (stmtN T (E'.map Env.enter) 14) sb).2)).code = 0 → mdE (m9.map Nm.leave) = E'.map Env.leave) := fun h0 => by
              have h1 := hgl.code (want_ok2 (want_ok2 h0))
              have h2 := He9.out h1
              have h3 : mdE (m9.map Nm.leave) = (mdE m9).map Env.leave := by cases m9 <;> rfl
              rw [h3, h2]
              cases E' <;> rfl
            generalize (listOf T (stmtN T (E'.map Env.enter) 14) sb).2 = r7 at *
            have hNe := fun W j (hj : At r7 j) (hP : RW wb tb cap T (m9.map Nm.leave) W r7) => need_any hT hP hgl.good hgl.stk j hj (bs [101, 110, 100]) (hfx _ (by decide))
            generalize want T (bs [101, 110, 100]) r7 = r8 at *
            have hNs := fun W (hP : RW wb tb cap T (m9.map Nm.leave) W r8) => need_any hT hP hge.good hge.stk r8.next (fun _ => rfl) (bs [59]) (hfx _ (by decide))
            clear eL
            go_wp2_with (first
              | (go_at_call 122; refine hLi.mono ?_; rintro e w10 ⟨j10, rfl, ha10, hP10, hk10⟩; have hD10 := (hD9.step hP10 hk10).leave; obtain ⟨q5, hq5⟩ := Option.isSome_iff_exists.1 (hP10.ext 5 (.inl rfl)); obtain ⟨q6, hq6⟩ := Option.isSome_iff_exists.1 (hP10.ext 6 (.inr rfl)); have hz5 := hP10.frz 5; have hz6 := hP10.frz 6)
              | (go_at_call 123; have _q := hP11; refine (hNs _ hP11).mono ?_; rintro e w12 ⟨rfl, hP12, hk12⟩)
              | (go_at_call 123; refine (hNe _ _ ha10 hD10.rw).mono ?_; rintro e w11 ⟨rfl, hP11, hk11⟩))
            go_ret
            unfold RDecl
            rw [HRN2.out]
            exact ⟨_, m9.map Nm.leave, rfl, fun _ => rfl, by rw [← hs9]; cases m9 <;> rfl, HC9.out, (hD10.step hP11 hk11).step hP12 hk12⟩

/-- A proc or func. -/
theorem refRoutine_any (hT : Toks T) (hfx : FxA T) : RRout wb tb cap T w0 := by
  intro m w s i kind h hg hs hi hcn
  by_cases hc : (openN T s).code = 0
  · exact routine_live hT hfx h hg hs i hi kind (hcn ((go2_openN hT hg hs).code hc)) hc
  · exact routine_dead hT hfx h hg hs i hi kind hc

end

end Go.Proofs.YtklobognaldjpaaGreat
