/- The reference's walk: variables and arrays. -/
import Derived.Test.YtklobognaldjpaaGreatCDcl5
namespace Go.Proofs.YtklobognaldjpaaGreat
open Go.RowKit

section
variable {wb tb cap : Nat} {T : List Tok} {m : Option Nm} {n : Nm} {w w0 : World} {s : PS}

set_option maxRecDepth 100000 in
set_option maxHeartbeats 1000000 in
theorem of_yes (h : RW wb tb cap T m w s) (hg : Good T s) (hc : s.code = 0) (i : Int) (hi : i = s.next) (k : TK) (kr : Int) (hkr : k.r = kr) (hk : kindIs T k s = true) :
    Calls Tryz.prog 124 #[.pointer (some ⟨wb, 0, none⟩), .int .i64 i, .int .i64 kr] w fun e w' => e = .returned (.int .i64 (i + 1)) ∧ w' = w := by
  have hfa := h.fault
  have ht := h.toks
  have hsz := h.size
  have hg' : (s.next : Int) < T.length := by unfold Good at hg; omega
  obtain ⟨c0, c1, c2, c3⟩ := h.curCells hg
  have hkk : (cur T s).kind.r = kr := by have : (cur T s).kind = k := by simpa [kindIs] using hk
                                         rw [this]; exact hkr
  subst hi
  rw [hkk] at c0
  rw [hc] at hfa
  clear c1 c2 c3 hkk hkr hk hc
  go_enter Tryz.func124, Tryz.ntmps124
  go_wp2
  go_ret
  exact ⟨rfl, rfl⟩

set_option maxRecDepth 100000 in
set_option maxHeartbeats 1000000 in
theorem vars_dead (h : RD wb tb cap T w0 m w s) (hg : Good T s) (hc : s.code ≠ 0) (i : Int) :
    Calls Tryz.prog 96 #[.pointer (some ⟨wb, 0, none⟩), .int .i64 i] w fun e w' => e = .returned (.int .i64 ((T.length - 1 : Nat) : Int)) ∧ w' = w := by
  have hfa := h.rw.fault
  have hz' : ((s.code : Int) == 0) = false := by simp; omega
  have hE := refEnd_any h.rw hg
  clear hc
  go_enter Tryz.func96, Tryz.ntmps96
  go_wp2
  go_loopw [1, 5, 6, 7, 8, 9, 10] (fun _ _ _ _ _ _ _ wr => wr = w) (fun _ _ _ _ _ _ _ _ => 0)
  case atStart => rfl
  case round =>
    obtain rfl := hrel
    go_wp2_with (go_at_call 126; refine hE.mono ?_; rintro e w1 ⟨rfl, h1⟩; obtain rfl := h1.symm; clear h1)
    go_ret
    exact ⟨rfl, rfl⟩

theorem want_ok2 {x : ByteArray} {r : PS} (h : (want T x r).code = 0) : r.code = 0 := by
  unfold want at h
  split at h
  · exact h
  · unfold fails at h
    simp only at h
    split at h
    · cases h
    · rename_i hc; exact absurd h hc

theorem dead_want (hT : Toks T) {f : ByteArray} (hf : f.toList ≠ []) {s : PS} (hs : Stk T s) (hc : s.code ≠ 0) : want T f s = s := (sm_want hT hf hs).2 hc

set_option maxRecDepth 1000000 in
set_option maxHeartbeats 16000000 in
theorem vars_live (hT : Toks T) (hfx : FxA T) (h : RD wb tb cap T w0 m w s) (hg : Good T s) (hc : s.code = 0) (hcn : CntE (mdE m) s) :
    Calls Tryz.prog 96 #[.pointer (some ⟨wb, 0, none⟩), .int .i64 s.next] w (RDecl wb tb cap T w0 m (itemsN T (mdE m) s).1 (itemsN T (mdE m) s).2) := by
  have hsz := h.rw.size
  obtain ⟨i0, hi0, hz0, hz1, hz2⟩ := info_parts Tryz.infoInt
  have HN0 : Hid (itemsN T (mdE m) s = ((itemsLoopN T T.length (itemN T (mdE m) s).1 (itemN T (mdE m) s).2).1, want T (bs [59]) (itemsLoopN T T.length (itemN T (mdE m) s).1 (itemN T (mdE m) s).2).2)) := rfl
  go_enter Tryz.func96, Tryz.ntmps96
  go_wp2
  go_loopw [1, 5, 6, 7, 8, 9, 10] (fun i _ _ _ _ _ _ wr => ∃ (s' : PS) (mm : Option Nm) (nn : Nat), i = .int .i64 (s'.next : Int) ∧ RD wb tb cap T w0 mm wr s' ∧ mm.isSome = m.isSome ∧ Good T s' ∧ s'.code = 0 ∧ CntE (mdE mm) s' ∧ T.length ≤ s'.next + nn ∧ Hid (itemsLoopN T nn (itemN T (mdE mm) s').1 (itemN T (mdE mm) s').2 = itemsLoopN T T.length (itemN T (mdE m) s).1 (itemN T (mdE m) s).2)) (fun i _ _ _ _ _ _ _ => T.length - (intOf i).toNat)
  case atStart => exact ⟨s, m, T.length, rfl, h, rfl, hg, hc, hcn, by omega, rfl⟩
  case round =>
    obtain ⟨s', mm, nn, rfl, hD, hsm, hg2, hc2, hcn2, hn2, HL⟩ := hrel
    have hg2' : s'.next < T.length := hg2
    have hs2 : Stk T s' := fun h => absurd hc2 h
    have hfa := hD.rw.fault
    rw [hc2] at hfa
    have HSM : Hid (mm.isSome = m.isSome) := hsm
    clear hsm
    have hlt := hD.rw.lt
    have htl := hD.rw.tlt
    cases hk : kindIs T .name s' with
    | false =>
      have hO := of_any hT hD.rw hg2 hs2 s'.next (fun _ => rfl) .name 1 rfl (.inl (by decide))
      have e1 : (nameP T s').2 = fails T 4 s' := by unfold nameP; rw [if_neg (by rw [hk]; simp)]
      rw [ofK_name, e1] at hO
      have e4 : (fails T 4 s').code = 4 := by simp [fails, hc2]
      have hd4 : (fails T 4 s').code ≠ 0 := by rw [e4]; decide
      have hst : Stk T (fails T 4 s') := stk_fails 4 s'
      have hgf := good_fails hT 4 s'
      have hnb : sees T (bs [91]) (fails T 4 s') = false := sees_stuck hT hst hd4 (bs_ne _ (by simp))
      have hno : sees T (bs [44]) (fails T 4 s') = false := sees_stuck hT hst hd4 (bs_ne _ (by simp))
      have e2 : itemN T (mdE mm) s' = (mdE mm, fails T 4 s') := by unfold itemN; rw [e1, if_neg (by rw [hnb]; simp), declE_dead hd4]
      have HE : Hid (itemsN T (mdE m) s = (mdE mm, fails T 4 s')) := by show _ = _; rw [HN0.out, ← HL.out, e2, itemsLoopN_stop hno]; exact Prod.ext rfl (dead_want hT (bs_ne _ (by simp)) hst hd4)
      have hI1 := fun W m' (hP : RW wb tb cap T m' W (fails T 4 s')) => is_any hT hP hgf hst (fails T 4 s').next (fun _ => rfl) (bs [91]) (hfx _ (by decide))
      have hI2 := fun W m' (hP : RW wb tb cap T m' W (fails T 4 s')) => is_any hT hP hgf hst (fails T 4 s').next (fun _ => rfl) (bs [44]) (hfx _ (by decide))
      have hNd := fun W m' (hP : RW wb tb cap T m' W (fails T 4 s')) => need_any hT hP hgf hst (fails T 4 s').next (fun _ => rfl) (bs [59]) (hfx _ (by decide))
      rw [dead_want hT (bs_ne _ (by simp)) hst hd4] at hNd
      rw [hnb] at hI1
      rw [hno] at hI2
      have hDe := fun W (hP : RD wb tb cap T w0 mm W (fails T 4 s')) va => declare_any hP hg2 false ⟨#[]⟩ 0 (fun _ => rfl) va 1 1 0 (fun n hn h0 => absurd h0 hd4)
      rw [declE_dead hd4] at hDe
      unfold cellV at hDe
      have HS : Hid (∀ m', mdE m' = mdE mm → m'.isSome = m.isSome) := by
        show ∀ m', _
        intro m' hm; rw [← HSM.out]; have := congrArg Option.isSome hm; simpa [mdE] using this
      generalize fails T 4 s' = s9 at *
      clear HL hk e1 e2 hno hnb hd4
      go_wp2_with (first
        | (go_at_call 124; refine hO.mono ?_; rintro e w1 ⟨rfl, hP1, hk1⟩; have hD1 := hD.step hP1 hk1)
        | (at_make; have _q := hD1; refine wpList_make_full _ rfl _ _ 23 rfl 0 3 i0 _ 1 Tryz.underlying23 hi0 hz0 hz1 .i64 .i64 1 1 1 rfl rfl rfl rfl ?zab2 ?zab3 (Nat.zero_le _) ?zahK
           case zab2 => rw [hz2]; decide
           case zab3 => decide
           intro wm hom hgm
           clear hom
           have hDm := (hD1.below (below_made hgm)).below (below_new wm (.cells #[.string ⟨#[]⟩, .int .i64 0, .slice (some ⟨w1.heap.size, 0, none⟩) 1 1, .int .i64 0, .slice none 0 0, .int .i64 0] 207)))
        | (go_at_call 94; have _q := hDD; refine (hI2 _ _ hDD.rw).mono ?_; rintro e w3 ⟨rfl, h3⟩; obtain rfl := h3.symm; clear h3)
        | (go_at_call 94; refine (hI1 _ _ hDm.rw).mono ?_; rintro e w3 ⟨rfl, h3⟩; obtain rfl := h3.symm; clear h3)
        | (go_at_call 125; refine (hDe _ hDm _).mono ?_; rintro e w2 ⟨rfl, m2, hm2, hDD⟩)
        | (go_at_call 123; refine (hNd _ _ hDD.rw).mono ?_; rintro e w5 ⟨rfl, hP5, hk5⟩))
      go_ret
      unfold RDecl
      rw [HE.out]
      exact ⟨_, m2, rfl, fun _ => rfl, HS.out _ hm2, fun _ => hm2, hDD.step hP5 hk5⟩
    | true =>
      have hga := good_adv_kind hT hg2 hk (by decide)
      have hga' : s'.next + 1 < T.length := hga
      have hsa : Stk T (adv s') := stk_adv hc2
      have hca : (adv s').code = 0 := hc2
      have ei : (((adv s').next : Nat) : Int) = (s'.next : Int) + 1 := by show ((s'.next + 1 : Nat) : Int) = _; omega
      have e1 : (nameP T s').2 = adv s' := by unfold nameP; rw [if_pos hk]
      have hO := of_yes hD.rw hg2 hc2 s'.next rfl .name 1 rfl hk
      have hI1 := fun W m' (hP : RW wb tb cap T m' W (adv s')) => is_any hT hP hga hsa ((s'.next : Int) + 1) (fun _ => ei.symm) (bs [91]) (hfx _ (by decide))
      have hDa : RD wb tb cap T w0 mm wr (adv s') := hD.at _
      cases hb : sees T (bs [91]) (adv s') with
      | false =>
        rw [hb] at hI1
        have e2 : itemN T (mdE mm) s' = declE T (mdE mm) false s' 0 0 (adv s') := by unfold itemN; rw [e1, if_neg (by rw [hb]; simp)]
        rw [e2] at HL
        have hG := go2_declE hT (mdE mm) false s' 0 0 hga hsa
        have hat : At (declE T (mdE mm) false s' 0 0 (adv s')).2 ((s'.next : Int) + 1) := at_declE (fun _ => ei.symm)
        have hDe := fun W (hP : RD wb tb cap T w0 mm W (adv s')) va => declare_any hP hg2 false ⟨#[]⟩ 0 (fun _ => rfl) va 1 1 0 (fun n hn _ => by subst hn; exact Nat.le_trans (CntE.row (E := n.E) hcn2 false) (by omega))
        have hcd := fun hz => cnt_declE (T := T) (here := false) (kind := 0) (args := 0) hcn2 (show s'.next + 1 ≤ (adv s').next from Nat.le_refl _) hz
        unfold cellV at hDe
        have HS : Hid (∀ m', mdE m' = (declE T (mdE mm) false s' 0 0 (adv s')).1 → m'.isSome = m.isSome) := by
          show ∀ m', _
          intro m' hm; rw [isSome_declE hm]; exact HSM.out
        generalize declE T (mdE mm) false s' 0 0 (adv s') = D at *
        have hle : s'.next + 1 ≤ D.2.next := hG.le
        have hI2 := fun W m' (hP : RW wb tb cap T m' W D.2) => is_any hT hP hG.good hG.stk ((s'.next : Int) + 1) hat (bs [44]) (hfx _ (by decide))
        have hgl : D.2.next < T.length := hG.good
        cases hz : sees T (bs [44]) D.2 with
        | true =>
          rw [hz] at hI2
          have hc3 := code_of_sees hT hG.stk (bs_ne _ (by simp)) hz
          have e3 := hat hc3
          have hga3 := good_adv hT hG.good hz (bs_ne _ (by simp))
          obtain ⟨n2, rfl⟩ : ∃ n2, nn = n2 + 1 := ⟨nn - 1, by omega⟩
          have HL2 : Hid (itemsLoopN T n2 (itemN T D.1 (adv D.2)).1 (itemN T D.1 (adv D.2)).2 = itemsLoopN T T.length (itemN T (mdE m) s).1 (itemN T (mdE m) s).2) := by show _ = _; rw [← HL.out, itemsLoopN_go hz]
          have HC := hcd hc3
          have HN : Hid ((((adv D.2).next : Nat) : Int) = (s'.next : Int) + 2) := by show ((D.2.next + 1 : Nat) : Int) = _; omega
          clear HL hz e1 e2 e3 hcd hk hb
          go_wp2_with (first
            | (go_at_call 124; refine hO.mono ?_; rintro e w1 ⟨rfl, h1⟩; obtain rfl := h1.symm; clear h1)
            | (at_make; refine wpList_make_full _ rfl _ _ 23 rfl 0 3 i0 _ 1 Tryz.underlying23 hi0 hz0 hz1 .i64 .i64 1 1 1 rfl rfl rfl rfl ?zbb2 ?zbb3 (Nat.zero_le _) ?zbhK
               case zbb2 => rw [hz2]; decide
               case zbb3 => decide
               intro wm hom hgm
               clear hom
               have hDm := (hDa.below (below_made hgm)).below (below_new wm (.cells #[.string ⟨#[]⟩, .int .i64 0, .slice (some ⟨wr.heap.size, 0, none⟩) 1 1, .int .i64 0, .slice none 0 0, .int .i64 0] 207)))
            | (go_at_call 94; have _q := hDD; refine (hI2 _ _ hDD.rw).mono ?_; rintro e w3 ⟨rfl, h3⟩; obtain rfl := h3.symm; clear h3)
            | (go_at_call 94; refine (hI1 _ _ hDm.rw).mono ?_; rintro e w3 ⟨rfl, h3⟩; obtain rfl := h3.symm; clear h3)
            | (go_at_call 125; refine (hDe _ hDm _).mono ?_; rintro e w2 ⟨rfl, m2, hm2, hDD⟩))
          go_roundw
          case rel => exact ⟨adv D.2, m2, n2, by rw [HN.out]; go_num, hDD.at _, HS.out _ hm2, hga3, hc3, by rw [hm2]; exact HC.le (Nat.le_succ _), by show T.length ≤ D.2.next + 1 + n2; omega, by rw [hm2]; exact HL2⟩
          case measure => simp [intOf]; omega
        | false =>
          rw [hz] at hI2
          have HE : Hid (itemsN T (mdE m) s = (D.1, want T (bs [59]) D.2)) := by show _ = _; rw [HN0.out, ← HL.out, itemsLoopN_stop hz]
          have hNd := fun W m' (hP : RW wb tb cap T m' W D.2) => need_any hT hP hG.good hG.stk ((s'.next : Int) + 1) hat (bs [59]) (hfx _ (by decide))
          clear HL hz e1 e2 hcd hk hb
          go_wp2_with (first
            | (go_at_call 124; refine hO.mono ?_; rintro e w1 ⟨rfl, h1⟩; obtain rfl := h1.symm; clear h1)
            | (at_make; refine wpList_make_full _ rfl _ _ 23 rfl 0 3 i0 _ 1 Tryz.underlying23 hi0 hz0 hz1 .i64 .i64 1 1 1 rfl rfl rfl rfl ?zcb2 ?zcb3 (Nat.zero_le _) ?zchK
               case zcb2 => rw [hz2]; decide
               case zcb3 => decide
               intro wm hom hgm
               clear hom
               have hDm := (hDa.below (below_made hgm)).below (below_new wm (.cells #[.string ⟨#[]⟩, .int .i64 0, .slice (some ⟨wr.heap.size, 0, none⟩) 1 1, .int .i64 0, .slice none 0 0, .int .i64 0] 207)))
            | (go_at_call 94; have _q := hDD; refine (hI2 _ _ hDD.rw).mono ?_; rintro e w3 ⟨rfl, h3⟩; obtain rfl := h3.symm; clear h3)
            | (go_at_call 94; refine (hI1 _ _ hDm.rw).mono ?_; rintro e w3 ⟨rfl, h3⟩; obtain rfl := h3.symm; clear h3)
            | (go_at_call 125; refine (hDe _ hDm _).mono ?_; rintro e w2 ⟨rfl, m2, hm2, hDD⟩)
            | (go_at_call 123; refine (hNd _ _ hDD.rw).mono ?_; rintro e w5 ⟨rfl, hP5, hk5⟩))
          go_ret
          unfold RDecl
          rw [HE.out]
          exact ⟨_, m2, rfl, fun _ => rfl, HS.out _ hm2, fun _ => hm2, hDD.step hP5 hk5⟩
      | true =>
        rw [hb] at hI1
        have hgaa := good_adv hT hga hb (bs_ne _ (by simp))
        have hgaa' : s'.next + 2 < T.length := hgaa
        have hsaa : Stk T (adv (adv s')) := fun h => absurd hc2 h
        have eii : (((adv (adv s')).next : Nat) : Int) = (s'.next : Int) + 1 + 1 := by show ((s'.next + 1 + 1 : Nat) : Int) = _; omega
        cases hnum : kindIs T .number (adv (adv s')) with
        | false =>
          have e4 : (fails T 4 (adv (adv s'))).code = 4 := by simp [fails, adv, hc2]
          have hd4 : (fails T 4 (adv (adv s'))).code ≠ 0 := by rw [e4]; decide
          have hst : Stk T (fails T 4 (adv (adv s'))) := stk_fails 4 _
          have hno : sees T (bs [44]) (fails T 4 (adv (adv s'))) = false := sees_stuck hT hst hd4 (bs_ne _ (by simp))
          have e5 : (numP T (adv (adv s'))).2 = fails T 4 (adv (adv s')) := by unfold numP; rw [if_neg (by rw [hnum]; simp)]
          have e2 : itemN T (mdE mm) s' = (mdE mm, fails T 4 (adv (adv s'))) := by
            unfold itemN; rw [e1, if_pos hb, e5, declE_dead hd4]
            have e6 : sizeE T (mdE mm) (adv (adv s')) (fails T 4 (adv (adv s'))) = fails T 4 (adv (adv s')) := by
              unfold sizeE; split
              · rfl
              · rw [if_neg (fun h => hd4 h.1)]
            show (mdE mm, want T (bs [93]) (sizeE T (mdE mm) (adv (adv s')) (fails T 4 (adv (adv s'))))) = _
            rw [e6, dead_want hT (bs_ne _ (by simp)) hst hd4]
          have HE : Hid (itemsN T (mdE m) s = (mdE mm, fails T 4 (adv (adv s')))) := by show _ = _; rw [HN0.out, ← HL.out, e2, itemsLoopN_stop hno]; exact Prod.ext rfl (dead_want hT (bs_ne _ (by simp)) hst hd4)
          have hO2 := fun W m' (hP : RW wb tb cap T m' W (adv s')) => of_any hT hP.adv hgaa hsaa ((s'.next : Int) + 1 + 1) (fun _ => eii.symm) .number 2 rfl (.inl (by decide))
          have e7 : ofK T .number (adv (adv s')) = fails T 4 (adv (adv s')) := by rw [ofK_num, e5]
          rw [e7] at hO2
          generalize fails T 4 (adv (adv s')) = s9 at *
          clear HL e1 e2 hno hd4 e5 hnum hk hb e7
          go_wp2_with (first
            | (go_at_call 124; have _q := hDm; refine (hO2 _ _ hDm.rw).mono ?_; rintro e w1 ⟨rfl, hP1, hk1⟩; have hf1 := hP1.fault; rw [e4] at hf1)
            | (go_at_call 124; refine hO.mono ?_; rintro e w1 ⟨rfl, h1⟩; obtain rfl := h1.symm; clear h1)
            | (at_make; refine wpList_make_full _ rfl _ _ 23 rfl 0 3 i0 _ 1 Tryz.underlying23 hi0 hz0 hz1 .i64 .i64 1 1 1 rfl rfl rfl rfl ?zdb2 ?zdb3 (Nat.zero_le _) ?zdhK
               case zdb2 => rw [hz2]; decide
               case zdb3 => decide
               intro wm hom hgm
               clear hom
               have hDm := (hDa.below (below_made hgm)).below (below_new wm (.cells #[.string ⟨#[]⟩, .int .i64 0, .slice (some ⟨wr.heap.size, 0, none⟩) 1 1, .int .i64 0, .slice none 0 0, .int .i64 0] 207)))
            | (go_at_call 94; refine (hI1 _ _ hDm.rw).mono ?_; rintro e w3 ⟨rfl, h3⟩; obtain rfl := h3.symm; clear h3))
          go_ret
          unfold RDecl
          rw [HE.out]
          exact ⟨_, mm, rfl, fun _ => rfl, HSM.out, fun _ => rfl, hDm.step hP1 hk1⟩
        | true =>
          have hg3 := good_adv_kind hT hgaa hnum (by decide)
          have hg3' : s'.next + 3 < T.length := hg3
          have e5 : (numP T (adv (adv s'))).2 = adv (adv (adv s')) := by unfold numP; rw [if_pos hnum]
          have hs3 : Stk T (adv (adv (adv s'))) := fun h => absurd hc2 h
          have hO2 := fun W m' (hP : RW wb tb cap T m' W (adv s')) => of_yes hP.adv hgaa hc2 ((s'.next : Int) + 1 + 1) eii.symm .number 2 rfl hnum
          have e2 : itemN T (mdE mm) s' = ((declE T (mdE mm) false s' 1 0 (adv (adv (adv s')))).1, want T (bs [93]) (sizeE T (mdE mm) (adv (adv s')) (declE T (mdE mm) false s' 1 0 (adv (adv (adv s')))).2)) := by
            unfold itemN; rw [e1, if_pos hb, e5]
          rw [e2] at HL
          have hG := go2_declE hT (mdE mm) false s' 1 0 hg3 hs3
          have hat : At (declE T (mdE mm) false s' 1 0 (adv (adv (adv s')))).2 ((s'.next : Int) + 1 + 1 + 1) := at_declE (fun _ => by show _ = ((s'.next + 1 + 1 + 1 : Nat) : Int); omega)
          have hDe := fun W (hP : RD wb tb cap T w0 mm W (adv (adv (adv s')))) va vn vc => declare_any hP hg2 false ⟨#[]⟩ 1 (fun h => by cases h) va vn vc 0 (fun n hn _ => by subst hn; exact Nat.le_trans (CntE.row (E := n.E) hcn2 false) (by omega))
          have hcd := fun hz => cnt_declE (T := T) (here := false) (kind := 1) (args := 0) hcn2 (show s'.next + 1 ≤ (adv (adv (adv s'))).next from (by show s'.next + 1 ≤ s'.next + 3; omega)) hz
          unfold cellV at hDe
          have HS : Hid (∀ m', mdE m' = (declE T (mdE mm) false s' 1 0 (adv (adv (adv s')))).1 → m'.isSome = m.isSome) := by
            show ∀ m', _
            intro m' hm; rw [isSome_declE hm]; exact HSM.out
          have HS2 : Hid (∀ m', mdE m' = (declE T (mdE mm) false s' 1 0 (adv (adv (adv s')))).1 → m'.isSome = mm.isSome) := by
            show ∀ m', _
            intro m' hm; rw [isSome_declE hm]
          generalize declE T (mdE mm) false s' 1 0 (adv (adv (adv s'))) = D at *
          have hle : s'.next + 3 ≤ D.2.next := hG.le
          have hgl : D.2.next < T.length := hG.good
          have hDv : ∀ (wm wm2 : World) (u : Value), wr.grownBy wm none → (wm.alloc (.cells #[.string ⟨#[]⟩, .int .i64 1, .slice (some ⟨wr.heap.size, 0, none⟩) 1 1, .int .i64 0, .slice none 0 0, .int .i64 0] 207)).grownBy wm2 none → RD wb tb cap T w0 mm (wm2.setCell ⟨wm.heap.size, 2, none⟩ u) (adv (adv (adv s'))) := by
            intro wm wm2 u hgm hgm2
            refine (hD.at (s'.next + 3)).below ?_
            have b1 : Below wr.heap.size wr wm := below_made hgm
            have b2 : Below wr.heap.size wm (wm.alloc (.cells #[.string ⟨#[]⟩, .int .i64 1, .slice (some ⟨wr.heap.size, 0, none⟩) 1 1, .int .i64 0, .slice none 0 0, .int .i64 0] 207)) := (below_new wm _).mono b1.size
            have b3 : Below wr.heap.size (wm.alloc (.cells #[.string ⟨#[]⟩, .int .i64 1, .slice (some ⟨wr.heap.size, 0, none⟩) 1 1, .int .i64 0, .slice none 0 0, .int .i64 0] 207)) wm2 := (below_made hgm2).mono (by simp; have := b1.size; omega)
            exact ((b1.trans b2).trans b3).setCell (p := ⟨wm.heap.size, 2, none⟩) b1.size _
          obtain ⟨mv, hmv⟩ : ∃ mv, mv = (cur T (adv (adv s'))).val := ⟨_, rfl⟩
          have HV : Hid (mv = (cur T (adv (adv s'))).val) := hmv
          clear hmv
          cases mm with
          | none =>
            have HMD : Hid (∀ m', mdE m' = D.1 → mdI m' = 0) := by
              show ∀ m', _
              intro m' hm; have h9 := HS2.out m' hm; cases m' with
              | none => rfl
              | some _ => simp at h9
            have hmn : min (mv : Int) 20 = ((min mv 20 : Nat) : Int) := by omega
            have e6 : sizeE T (mdE none) (adv (adv s')) D.2 = D.2 := rfl
            rw [e6] at HL
            have hg5 := go2_want hT (f := bs [93]) (bs_ne _ (by simp)) hG.good hG.stk
            have hN5 := fun W m' (hP : RW wb tb cap T m' W D.2) => need_any hT hP hG.good hG.stk ((s'.next : Int) + 1 + 1 + 1) hat (bs [93]) (hfx _ (by decide))
            have hcd5 : (want T (bs [93]) D.2).code = 0 → CntE D.1 (want T (bs [93]) D.2) := fun h5 => (hcd (want_ok2 h5)).le hg5.le
            generalize want T (bs [93]) D.2 = s5 at *
            have hle5 := hg5.le
            have hgl5 : s5.next < T.length := hg5.good
            have hI2 := fun W m' (hP : RW wb tb cap T m' W s5) => is_any hT hP hg5.good hg5.stk s5.next (fun _ => rfl) (bs [44]) (hfx _ (by decide))
            cases hz : sees T (bs [44]) s5 with
            | true =>
              rw [hz] at hI2
              have hc3 := code_of_sees hT hg5.stk (bs_ne _ (by simp)) hz
              have hga3 := good_adv hT hg5.good hz (bs_ne _ (by simp))
              obtain ⟨n2, rfl⟩ : ∃ n2, nn = n2 + 1 := ⟨nn - 1, by omega⟩
              have HL2 : Hid (itemsLoopN T n2 (itemN T D.1 (adv s5)).1 (itemN T D.1 (adv s5)).2 = itemsLoopN T T.length (itemN T (mdE m) s).1 (itemN T (mdE m) s).2) := by show _ = _; rw [← HL.out, itemsLoopN_go hz]
              have HC := hcd5 hc3
              clear HL hz e1 e2 hcd hcd5 hk hb hnum e5 e6
              go_wp2_with (first
                | (go_at_call 123; refine (hN5 _ _ hDD.rw).mono ?_; rintro e w5 ⟨rfl, hP5, hk5⟩)
                | (go_at_call 94; have _q := hP5; refine (hI2 _ _ hP5).mono ?_; rintro e w3 ⟨rfl, h3⟩; obtain rfl := h3.symm; clear h3)
                | (go_at_call 124; have _q := hDm; refine (hO2 _ _ hDm.rw).mono ?_; rintro e w1 ⟨rfl, h1⟩; obtain rfl := h1.symm; clear h1; have mkb : Hid True := trivial)
                | (go_at_call 124; refine hO.mono ?_; rintro e w1 ⟨rfl, h1⟩; obtain rfl := h1.symm; clear h1)
                | (at_make; have _q := mkb; refine wpList_make_full _ rfl _ _ 23 rfl 0 3 i0 _ 1 Tryz.underlying23 hi0 hz0 hz1 .i64 .i64 ((min mv 20 : Nat) : Int) ((min mv 20 : Nat) : Int) (min mv 20) rfl rfl rfl rfl ?napbb2 ?napbb3 (Nat.zero_le _) ?napbhK
                   case napbb2 => rw [hz2]; omega
                   case napbb3 => unfold maxLen; omega
                   intro wm2 hom2 hgm2
                   clear hom2
                   have qc := fun o => (hgm2.cell_far ⟨wm.heap.size, o, none⟩ (by simp) (by simp) : wm2.cell? ⟨wm.heap.size, o, none⟩ = _)
                   have qf := (hgm2.frozen_far ⟨wm.heap.size, 2, none⟩ (by simp) (by simp) : wm2.frozen? ⟨wm.heap.size, 2, none⟩ = _)
                   have qc0 := qc 0
                   have qc1 := qc 1
                   have qc2 := qc 2
                   have qc3 := qc 3
                   have qc4 := qc 4
                   have qc5 := qc 5
                   clear qc
                   simp at qc0 qc1 qc2 qc3 qc4 qc5 qf)
                | (at_make; refine wpList_make_full _ rfl _ _ 23 rfl 0 3 i0 _ 1 Tryz.underlying23 hi0 hz0 hz1 .i64 .i64 1 1 1 rfl rfl rfl rfl ?napab2 ?napab3 (Nat.zero_le _) ?napahK
                   case napab2 => rw [hz2]; decide
                   case napab3 => decide
                   intro wm hom hgm
                   clear hom
                   have hDm := (hDa.below (below_made hgm)).below (below_new wm (.cells #[.string ⟨#[]⟩, .int .i64 0, .slice (some ⟨wr.heap.size, 0, none⟩) 1 1, .int .i64 0, .slice none 0 0, .int .i64 0] 207))
                   have hb1 := (hDa.below (below_made hgm)).rw.tlt
                   have hb2 := (hDa.below (below_made hgm)).rw.lt
                   have hcv : wm.cell? ⟨tb, (s'.next + 1 + 1) * 4 + 1, none⟩ = some (.int .i64 mv) := by rw [HV.out]; exact (((hDa.below (below_made hgm)).rw.adv).curCells hgaa).2.1
                   have htk := (hDa.below (below_made hgm)).rw.toks
                   have hfm := (hDa.below (below_made hgm)).rw.fault
                   rw [hca] at hfm)
                | (go_at_call 94; refine (hI1 _ _ hDm.rw).mono ?_; rintro e w3 ⟨rfl, h3⟩; obtain rfl := h3.symm; clear h3)
                | (go_at_call 125; refine (hDe _ (hDv wm wm2 _ hgm hgm2) _ _ _).mono ?_; rintro e w2 ⟨rfl, m2, hm2, hDD⟩; have hmo2 := hDD.rw.mode_; rw [HMD.out _ hm2] at hmo2))
              go_roundw
              case rel => exact ⟨adv s5, m2, n2, by show _ = Value.int .i64 ((s5.next + 1 : Nat) : Int); go_num, (hDD.step hP5 hk5).at _, HS.out _ hm2, hga3, hc3, by rw [hm2]; exact HC.le (Nat.le_succ _), by show T.length ≤ s5.next + 1 + n2; omega, by rw [hm2]; exact HL2⟩
              case measure => simp [intOf]; omega
            | false =>
              rw [hz] at hI2
              have HE : Hid (itemsN T (mdE m) s = (D.1, want T (bs [59]) s5)) := by show _ = _; rw [HN0.out, ← HL.out, itemsLoopN_stop hz]
              have hNd := fun W m' (hP : RW wb tb cap T m' W s5) => need_any hT hP hg5.good hg5.stk s5.next (fun _ => rfl) (bs [59]) (hfx _ (by decide))
              clear HL hz e1 e2 hcd hcd5 hk hb hnum e5 e6
              go_wp2_with (first
                | (go_at_call 123; have _q := hP5; refine (hNd _ _ hP5).mono ?_; rintro e w6 ⟨rfl, hP6, hk6⟩)
                | (go_at_call 123; refine (hN5 _ _ hDD.rw).mono ?_; rintro e w5 ⟨rfl, hP5, hk5⟩)
                | (go_at_call 94; have _q := hP5; refine (hI2 _ _ hP5).mono ?_; rintro e w3 ⟨rfl, h3⟩; obtain rfl := h3.symm; clear h3)
                | (go_at_call 124; have _q := hDm; refine (hO2 _ _ hDm.rw).mono ?_; rintro e w1 ⟨rfl, h1⟩; obtain rfl := h1.symm; clear h1; have mkb : Hid True := trivial)
                | (go_at_call 124; refine hO.mono ?_; rintro e w1 ⟨rfl, h1⟩; obtain rfl := h1.symm; clear h1)
                | (at_make; have _q := mkb; refine wpList_make_full _ rfl _ _ 23 rfl 0 3 i0 _ 1 Tryz.underlying23 hi0 hz0 hz1 .i64 .i64 ((min mv 20 : Nat) : Int) ((min mv 20 : Nat) : Int) (min mv 20) rfl rfl rfl rfl ?naqbb2 ?naqbb3 (Nat.zero_le _) ?naqbhK
                   case naqbb2 => rw [hz2]; omega
                   case naqbb3 => unfold maxLen; omega
                   intro wm2 hom2 hgm2
                   clear hom2
                   have qc := fun o => (hgm2.cell_far ⟨wm.heap.size, o, none⟩ (by simp) (by simp) : wm2.cell? ⟨wm.heap.size, o, none⟩ = _)
                   have qf := (hgm2.frozen_far ⟨wm.heap.size, 2, none⟩ (by simp) (by simp) : wm2.frozen? ⟨wm.heap.size, 2, none⟩ = _)
                   have qc0 := qc 0
                   have qc1 := qc 1
                   have qc2 := qc 2
                   have qc3 := qc 3
                   have qc4 := qc 4
                   have qc5 := qc 5
                   clear qc
                   simp at qc0 qc1 qc2 qc3 qc4 qc5 qf)
                | (at_make; refine wpList_make_full _ rfl _ _ 23 rfl 0 3 i0 _ 1 Tryz.underlying23 hi0 hz0 hz1 .i64 .i64 1 1 1 rfl rfl rfl rfl ?naqab2 ?naqab3 (Nat.zero_le _) ?naqahK
                   case naqab2 => rw [hz2]; decide
                   case naqab3 => decide
                   intro wm hom hgm
                   clear hom
                   have hDm := (hDa.below (below_made hgm)).below (below_new wm (.cells #[.string ⟨#[]⟩, .int .i64 0, .slice (some ⟨wr.heap.size, 0, none⟩) 1 1, .int .i64 0, .slice none 0 0, .int .i64 0] 207))
                   have hb1 := (hDa.below (below_made hgm)).rw.tlt
                   have hb2 := (hDa.below (below_made hgm)).rw.lt
                   have hcv : wm.cell? ⟨tb, (s'.next + 1 + 1) * 4 + 1, none⟩ = some (.int .i64 mv) := by rw [HV.out]; exact (((hDa.below (below_made hgm)).rw.adv).curCells hgaa).2.1
                   have htk := (hDa.below (below_made hgm)).rw.toks
                   have hfm := (hDa.below (below_made hgm)).rw.fault
                   rw [hca] at hfm)
                | (go_at_call 94; refine (hI1 _ _ hDm.rw).mono ?_; rintro e w3 ⟨rfl, h3⟩; obtain rfl := h3.symm; clear h3)
                | (go_at_call 125; refine (hDe _ (hDv wm wm2 _ hgm hgm2) _ _ _).mono ?_; rintro e w2 ⟨rfl, m2, hm2, hDD⟩; have hmo2 := hDD.rw.mode_; rw [HMD.out _ hm2] at hmo2))
              go_ret
              unfold RDecl
              rw [HE.out]
              exact ⟨_, m2, rfl, fun _ => rfl, HS.out _ hm2, fun _ => hm2, (hDD.step hP5 hk5).step hP6 hk6⟩
          | some nE =>
            have HMD : Hid (∀ m', mdE m' = D.1 → mdI m' = 1) := by
              show ∀ m', _
              intro m' hm; have h9 := HS2.out m' hm; cases m' with
              | none => simp at h9
              | some _ => rfl
            by_cases hbad : mv < 1 ∨ 20 < mv
            · have e6 : sizeE T (mdE (some nE)) (adv (adv s')) D.2 = fails T 3 { D.2 with next := s'.next + 2 } := by
                show (if D.2.code = 0 ∧ ((cur T (adv (adv s'))).val < 1 ∨ 20 < (cur T (adv (adv s'))).val) then stop T 3 (cur T (adv (adv s'))).pos else D.2) = _
                rw [← HV.out]
                by_cases hz : D.2.code = 0
                · rw [if_pos ⟨hz, hbad⟩]; simp [fails, stop, hz]; rfl
                · rw [if_neg (fun h => hz h.1)]
                  have h9 := hG.stk hz
                  simp only [fails, if_neg hz]
                  rw [← h9]
              have hWr := fun W m' (hP : RW wb tb cap T m' W D.2) => wrong_any (hP.at (s'.next + 2)) (s := { D.2 with next := s'.next + 2 }) hgaa 3 ((s'.next : Int) + 1 + 1) (fun _ => by show _ = ((s'.next + 2 : Nat) : Int); omega)
              have hd4 : (fails T 3 { D.2 with next := s'.next + 2 }).code ≠ 0 := by
                by_cases hz : D.2.code = 0
                · simp [fails, hz]
                · simp [fails, hz]
              have hst : Stk T (fails T 3 { D.2 with next := s'.next + 2 }) := stk_fails 3 _
              rw [e6] at HL
              clear e6 e2
              generalize fails T 3 { D.2 with next := s'.next + 2 } = s9 at *
              have hno : sees T (bs [44]) s9 = false := sees_stuck hT hst hd4 (bs_ne _ (by simp))
              have HE : Hid (itemsN T (mdE m) s = (D.1, s9)) := by show _ = _; rw [HN0.out, ← HL.out, dead_want hT (bs_ne _ (by simp)) hst hd4, itemsLoopN_stop hno]; exact Prod.ext rfl (dead_want hT (bs_ne _ (by simp)) hst hd4)
              clear HL hno hd4 hcd e1 e5 hk hb hnum
              rcases hbad with hbad | hbad
              · have HLO : Hid ((mv : Int) < 1) := by show _ < _; omega
                have hmn : min (mv : Int) 20 = ((min mv 20 : Nat) : Int) := by omega
                clear hbad
                go_wp2_with (first
                  | (go_at_call 124; have _q := hDm; refine (hO2 _ _ hDm.rw).mono ?_; rintro e w1 ⟨rfl, h1⟩; obtain rfl := h1.symm; clear h1; have mkb : Hid True := trivial)
                  | (go_at_call 124; refine hO.mono ?_; rintro e w1 ⟨rfl, h1⟩; obtain rfl := h1.symm; clear h1)
                  | (at_make; have _q := mkb; refine wpList_make_full _ rfl _ _ 23 rfl 0 3 i0 _ 1 Tryz.underlying23 hi0 hz0 hz1 .i64 .i64 ((min mv 20 : Nat) : Int) ((min mv 20 : Nat) : Int) (min mv 20) rfl rfl rfl rfl ?pabb2 ?pabb3 (Nat.zero_le _) ?pabhK
                     case pabb2 => rw [hz2]; omega
                     case pabb3 => unfold maxLen; omega
                     intro wm2 hom2 hgm2
                     clear hom2
                     have qc := fun o => (hgm2.cell_far ⟨wm.heap.size, o, none⟩ (by simp) (by simp) : wm2.cell? ⟨wm.heap.size, o, none⟩ = _)
                     have qf := (hgm2.frozen_far ⟨wm.heap.size, 2, none⟩ (by simp) (by simp) : wm2.frozen? ⟨wm.heap.size, 2, none⟩ = _)
                     have qc0 := qc 0
                     have qc1 := qc 1
                     have qc2 := qc 2
                     have qc3 := qc 3
                     have qc4 := qc 4
                     have qc5 := qc 5
                     clear qc
                     simp at qc0 qc1 qc2 qc3 qc4 qc5 qf)
                  | (at_make; refine wpList_make_full _ rfl _ _ 23 rfl 0 3 i0 _ 1 Tryz.underlying23 hi0 hz0 hz1 .i64 .i64 1 1 1 rfl rfl rfl rfl ?paab2 ?paab3 (Nat.zero_le _) ?paahK
                     case paab2 => rw [hz2]; decide
                     case paab3 => decide
                     intro wm hom hgm
                     clear hom
                     have hDm := (hDa.below (below_made hgm)).below (below_new wm (.cells #[.string ⟨#[]⟩, .int .i64 0, .slice (some ⟨wr.heap.size, 0, none⟩) 1 1, .int .i64 0, .slice none 0 0, .int .i64 0] 207))
                     have hb1 := (hDa.below (below_made hgm)).rw.tlt
                     have hb2 := (hDa.below (below_made hgm)).rw.lt
                     have hcv : wm.cell? ⟨tb, (s'.next + 1 + 1) * 4 + 1, none⟩ = some (.int .i64 mv) := by rw [HV.out]; exact (((hDa.below (below_made hgm)).rw.adv).curCells hgaa).2.1
                     have htk := (hDa.below (below_made hgm)).rw.toks
                     have hfm := (hDa.below (below_made hgm)).rw.fault
                     rw [hca] at hfm)
                  | (go_at_call 94; refine (hI1 _ _ hDm.rw).mono ?_; rintro e w3 ⟨rfl, h3⟩; obtain rfl := h3.symm; clear h3)
                  | (go_at_call 125; refine (hDe _ (hDv wm wm2 _ hgm hgm2) _ _ _).mono ?_; rintro e w2 ⟨rfl, m2, hm2, hDD⟩; have hmo2 := hDD.rw.mode_; rw [HMD.out _ hm2] at hmo2; have hlo := HLO.out)
                  | (go_at_call 98; refine (hWr _ _ hDD.rw).mono ?_; rintro e w5 ⟨rfl, hP5, hk5⟩))
                go_ret
                unfold RDecl
                rw [HE.out]
                exact ⟨_, m2, rfl, fun _ => rfl, HS.out _ hm2, fun _ => hm2, hDD.step hP5 hk5⟩
              · have HMX : Hid ((20 : Int) < (mv : Int)) := by show _ < _; omega
                have HLO : Hid (¬ (mv : Int) < 1) := by show ¬ _; omega
                have hmn : min (mv : Int) 20 = ((min mv 20 : Nat) : Int) := by omega
                clear hbad
                go_wp2_with (first
                  | (go_at_call 124; have _q := hDm; refine (hO2 _ _ hDm.rw).mono ?_; rintro e w1 ⟨rfl, h1⟩; obtain rfl := h1.symm; clear h1; have mkb : Hid True := trivial)
                  | (go_at_call 124; refine hO.mono ?_; rintro e w1 ⟨rfl, h1⟩; obtain rfl := h1.symm; clear h1)
                  | (at_make; have _q := mkb; refine wpList_make_full _ rfl _ _ 23 rfl 0 3 i0 _ 1 Tryz.underlying23 hi0 hz0 hz1 .i64 .i64 ((min mv 20 : Nat) : Int) ((min mv 20 : Nat) : Int) (min mv 20) rfl rfl rfl rfl ?pbbb2 ?pbbb3 (Nat.zero_le _) ?pbbhK
                     case pbbb2 => rw [hz2]; omega
                     case pbbb3 => unfold maxLen; omega
                     intro wm2 hom2 hgm2
                     clear hom2
                     have qc := fun o => (hgm2.cell_far ⟨wm.heap.size, o, none⟩ (by simp) (by simp) : wm2.cell? ⟨wm.heap.size, o, none⟩ = _)
                     have qf := (hgm2.frozen_far ⟨wm.heap.size, 2, none⟩ (by simp) (by simp) : wm2.frozen? ⟨wm.heap.size, 2, none⟩ = _)
                     have qc0 := qc 0
                     have qc1 := qc 1
                     have qc2 := qc 2
                     have qc3 := qc 3
                     have qc4 := qc 4
                     have qc5 := qc 5
                     clear qc
                     simp at qc0 qc1 qc2 qc3 qc4 qc5 qf)
                  | (at_make; refine wpList_make_full _ rfl _ _ 23 rfl 0 3 i0 _ 1 Tryz.underlying23 hi0 hz0 hz1 .i64 .i64 1 1 1 rfl rfl rfl rfl ?pbab2 ?pbab3 (Nat.zero_le _) ?pbahK
                     case pbab2 => rw [hz2]; decide
                     case pbab3 => decide
                     intro wm hom hgm
                     clear hom
                     have hDm := (hDa.below (below_made hgm)).below (below_new wm (.cells #[.string ⟨#[]⟩, .int .i64 0, .slice (some ⟨wr.heap.size, 0, none⟩) 1 1, .int .i64 0, .slice none 0 0, .int .i64 0] 207))
                     have hb1 := (hDa.below (below_made hgm)).rw.tlt
                     have hb2 := (hDa.below (below_made hgm)).rw.lt
                     have hcv : wm.cell? ⟨tb, (s'.next + 1 + 1) * 4 + 1, none⟩ = some (.int .i64 mv) := by rw [HV.out]; exact (((hDa.below (below_made hgm)).rw.adv).curCells hgaa).2.1
                     have htk := (hDa.below (below_made hgm)).rw.toks
                     have hfm := (hDa.below (below_made hgm)).rw.fault
                     rw [hca] at hfm)
                  | (go_at_call 94; refine (hI1 _ _ hDm.rw).mono ?_; rintro e w3 ⟨rfl, h3⟩; obtain rfl := h3.symm; clear h3)
                  | (go_at_call 125; refine (hDe _ (hDv wm wm2 _ hgm hgm2) _ _ _).mono ?_; rintro e w2 ⟨rfl, m2, hm2, hDD⟩; have hmo2 := hDD.rw.mode_; rw [HMD.out _ hm2] at hmo2; have hlo := HLO.out; have hmx := HMX.out)
                  | (go_at_call 98; refine (hWr _ _ hDD.rw).mono ?_; rintro e w5 ⟨rfl, hP5, hk5⟩))
                go_ret
                unfold RDecl
                rw [HE.out]
                exact ⟨_, m2, rfl, fun _ => rfl, HS.out _ hm2, fun _ => hm2, hDD.step hP5 hk5⟩
            · have HMX : Hid (¬ (20 : Int) < (mv : Int)) := by show ¬ _; omega
              have HLO : Hid (¬ (mv : Int) < 1) := by show ¬ _; omega
              have hmn : min (mv : Int) 20 = ((min mv 20 : Nat) : Int) := by omega
              have e6 : sizeE T (mdE (some nE)) (adv (adv s')) D.2 = D.2 := by
                show (if D.2.code = 0 ∧ ((cur T (adv (adv s'))).val < 1 ∨ 20 < (cur T (adv (adv s'))).val) then _ else D.2) = _
                rw [← HV.out, if_neg (fun h => hbad h.2)]
              rw [e6] at HL
              have hg5 := go2_want hT (f := bs [93]) (bs_ne _ (by simp)) hG.good hG.stk
              have hN5 := fun W m' (hP : RW wb tb cap T m' W D.2) => need_any hT hP hG.good hG.stk ((s'.next : Int) + 1 + 1 + 1) hat (bs [93]) (hfx _ (by decide))
              have hcd5 : (want T (bs [93]) D.2).code = 0 → CntE D.1 (want T (bs [93]) D.2) := fun h5 => (hcd (want_ok2 h5)).le hg5.le
              generalize want T (bs [93]) D.2 = s5 at *
              have hle5 := hg5.le
              have hgl5 : s5.next < T.length := hg5.good
              have hI2 := fun W m' (hP : RW wb tb cap T m' W s5) => is_any hT hP hg5.good hg5.stk s5.next (fun _ => rfl) (bs [44]) (hfx _ (by decide))
              cases hz : sees T (bs [44]) s5 with
              | true =>
                rw [hz] at hI2
                have hc3 := code_of_sees hT hg5.stk (bs_ne _ (by simp)) hz
                have hga3 := good_adv hT hg5.good hz (bs_ne _ (by simp))
                obtain ⟨n2, rfl⟩ : ∃ n2, nn = n2 + 1 := ⟨nn - 1, by omega⟩
                have HL2 : Hid (itemsLoopN T n2 (itemN T D.1 (adv s5)).1 (itemN T D.1 (adv s5)).2 = itemsLoopN T T.length (itemN T (mdE m) s).1 (itemN T (mdE m) s).2) := by show _ = _; rw [← HL.out, itemsLoopN_go hz]
                have HC := hcd5 hc3
                clear HL hz e1 e2 hcd hcd5 hk hb hnum e5 e6 hbad
                go_wp2_with (first
                  | (go_at_call 123; refine (hN5 _ _ hDD.rw).mono ?_; rintro e w5 ⟨rfl, hP5, hk5⟩)
                  | (go_at_call 94; have _q := hP5; refine (hI2 _ _ hP5).mono ?_; rintro e w3 ⟨rfl, h3⟩; obtain rfl := h3.symm; clear h3)
                  | (go_at_call 124; have _q := hDm; refine (hO2 _ _ hDm.rw).mono ?_; rintro e w1 ⟨rfl, h1⟩; obtain rfl := h1.symm; clear h1; have mkb : Hid True := trivial)
                  | (go_at_call 124; refine hO.mono ?_; rintro e w1 ⟨rfl, h1⟩; obtain rfl := h1.symm; clear h1)
                  | (at_make; have _q := mkb; refine wpList_make_full _ rfl _ _ 23 rfl 0 3 i0 _ 1 Tryz.underlying23 hi0 hz0 hz1 .i64 .i64 ((min mv 20 : Nat) : Int) ((min mv 20 : Nat) : Int) (min mv 20) rfl rfl rfl rfl ?pcpbb2 ?pcpbb3 (Nat.zero_le _) ?pcpbhK
                     case pcpbb2 => rw [hz2]; omega
                     case pcpbb3 => unfold maxLen; omega
                     intro wm2 hom2 hgm2
                     clear hom2
                     have qc := fun o => (hgm2.cell_far ⟨wm.heap.size, o, none⟩ (by simp) (by simp) : wm2.cell? ⟨wm.heap.size, o, none⟩ = _)
                     have qf := (hgm2.frozen_far ⟨wm.heap.size, 2, none⟩ (by simp) (by simp) : wm2.frozen? ⟨wm.heap.size, 2, none⟩ = _)
                     have qc0 := qc 0
                     have qc1 := qc 1
                     have qc2 := qc 2
                     have qc3 := qc 3
                     have qc4 := qc 4
                     have qc5 := qc 5
                     clear qc
                     simp at qc0 qc1 qc2 qc3 qc4 qc5 qf)
                  | (at_make; refine wpList_make_full _ rfl _ _ 23 rfl 0 3 i0 _ 1 Tryz.underlying23 hi0 hz0 hz1 .i64 .i64 1 1 1 rfl rfl rfl rfl ?pcpab2 ?pcpab3 (Nat.zero_le _) ?pcpahK
                     case pcpab2 => rw [hz2]; decide
                     case pcpab3 => decide
                     intro wm hom hgm
                     clear hom
                     have hDm := (hDa.below (below_made hgm)).below (below_new wm (.cells #[.string ⟨#[]⟩, .int .i64 0, .slice (some ⟨wr.heap.size, 0, none⟩) 1 1, .int .i64 0, .slice none 0 0, .int .i64 0] 207))
                     have hb1 := (hDa.below (below_made hgm)).rw.tlt
                     have hb2 := (hDa.below (below_made hgm)).rw.lt
                     have hcv : wm.cell? ⟨tb, (s'.next + 1 + 1) * 4 + 1, none⟩ = some (.int .i64 mv) := by rw [HV.out]; exact (((hDa.below (below_made hgm)).rw.adv).curCells hgaa).2.1
                     have htk := (hDa.below (below_made hgm)).rw.toks
                     have hfm := (hDa.below (below_made hgm)).rw.fault
                     rw [hca] at hfm)
                  | (go_at_call 94; refine (hI1 _ _ hDm.rw).mono ?_; rintro e w3 ⟨rfl, h3⟩; obtain rfl := h3.symm; clear h3)
                  | (go_at_call 125; refine (hDe _ (hDv wm wm2 _ hgm hgm2) _ _ _).mono ?_; rintro e w2 ⟨rfl, m2, hm2, hDD⟩; have hlo := HLO.out; have hmx := HMX.out; have hmo2 := hDD.rw.mode_; rw [HMD.out _ hm2] at hmo2))
                go_roundw
                case rel => exact ⟨adv s5, m2, n2, by show _ = Value.int .i64 ((s5.next + 1 : Nat) : Int); go_num, (hDD.step hP5 hk5).at _, HS.out _ hm2, hga3, hc3, by rw [hm2]; exact HC.le (Nat.le_succ _), by show T.length ≤ s5.next + 1 + n2; omega, by rw [hm2]; exact HL2⟩
                case measure => simp [intOf]; omega
              | false =>
                rw [hz] at hI2
                have HE : Hid (itemsN T (mdE m) s = (D.1, want T (bs [59]) s5)) := by show _ = _; rw [HN0.out, ← HL.out, itemsLoopN_stop hz]
                have hNd := fun W m' (hP : RW wb tb cap T m' W s5) => need_any hT hP hg5.good hg5.stk s5.next (fun _ => rfl) (bs [59]) (hfx _ (by decide))
                clear HL hz e1 e2 hcd hcd5 hk hb hnum e5 e6 hbad
                go_wp2_with (first
                  | (go_at_call 123; have _q := hP5; refine (hNd _ _ hP5).mono ?_; rintro e w6 ⟨rfl, hP6, hk6⟩)
                  | (go_at_call 123; refine (hN5 _ _ hDD.rw).mono ?_; rintro e w5 ⟨rfl, hP5, hk5⟩)
                  | (go_at_call 94; have _q := hP5; refine (hI2 _ _ hP5).mono ?_; rintro e w3 ⟨rfl, h3⟩; obtain rfl := h3.symm; clear h3)
                  | (go_at_call 124; have _q := hDm; refine (hO2 _ _ hDm.rw).mono ?_; rintro e w1 ⟨rfl, h1⟩; obtain rfl := h1.symm; clear h1; have mkb : Hid True := trivial)
                  | (go_at_call 124; refine hO.mono ?_; rintro e w1 ⟨rfl, h1⟩; obtain rfl := h1.symm; clear h1)
                  | (at_make; have _q := mkb; refine wpList_make_full _ rfl _ _ 23 rfl 0 3 i0 _ 1 Tryz.underlying23 hi0 hz0 hz1 .i64 .i64 ((min mv 20 : Nat) : Int) ((min mv 20 : Nat) : Int) (min mv 20) rfl rfl rfl rfl ?pcqbb2 ?pcqbb3 (Nat.zero_le _) ?pcqbhK
                     case pcqbb2 => rw [hz2]; omega
                     case pcqbb3 => unfold maxLen; omega
                     intro wm2 hom2 hgm2
                     clear hom2
                     have qc := fun o => (hgm2.cell_far ⟨wm.heap.size, o, none⟩ (by simp) (by simp) : wm2.cell? ⟨wm.heap.size, o, none⟩ = _)
                     have qf := (hgm2.frozen_far ⟨wm.heap.size, 2, none⟩ (by simp) (by simp) : wm2.frozen? ⟨wm.heap.size, 2, none⟩ = _)
                     have qc0 := qc 0
                     have qc1 := qc 1
                     have qc2 := qc 2
                     have qc3 := qc 3
                     have qc4 := qc 4
                     have qc5 := qc 5
                     clear qc
                     simp at qc0 qc1 qc2 qc3 qc4 qc5 qf)
                  | (at_make; refine wpList_make_full _ rfl _ _ 23 rfl 0 3 i0 _ 1 Tryz.underlying23 hi0 hz0 hz1 .i64 .i64 1 1 1 rfl rfl rfl rfl ?pcqab2 ?pcqab3 (Nat.zero_le _) ?pcqahK
                     case pcqab2 => rw [hz2]; decide
                     case pcqab3 => decide
                     intro wm hom hgm
                     clear hom
                     have hDm := (hDa.below (below_made hgm)).below (below_new wm (.cells #[.string ⟨#[]⟩, .int .i64 0, .slice (some ⟨wr.heap.size, 0, none⟩) 1 1, .int .i64 0, .slice none 0 0, .int .i64 0] 207))
                     have hb1 := (hDa.below (below_made hgm)).rw.tlt
                     have hb2 := (hDa.below (below_made hgm)).rw.lt
                     have hcv : wm.cell? ⟨tb, (s'.next + 1 + 1) * 4 + 1, none⟩ = some (.int .i64 mv) := by rw [HV.out]; exact (((hDa.below (below_made hgm)).rw.adv).curCells hgaa).2.1
                     have htk := (hDa.below (below_made hgm)).rw.toks
                     have hfm := (hDa.below (below_made hgm)).rw.fault
                     rw [hca] at hfm)
                  | (go_at_call 94; refine (hI1 _ _ hDm.rw).mono ?_; rintro e w3 ⟨rfl, h3⟩; obtain rfl := h3.symm; clear h3)
                  | (go_at_call 125; refine (hDe _ (hDv wm wm2 _ hgm hgm2) _ _ _).mono ?_; rintro e w2 ⟨rfl, m2, hm2, hDD⟩; have hlo := HLO.out; have hmx := HMX.out; have hmo2 := hDD.rw.mode_; rw [HMD.out _ hm2] at hmo2))
                go_ret
                unfold RDecl
                rw [HE.out]
                exact ⟨_, m2, rfl, fun _ => rfl, HS.out _ hm2, fun _ => hm2, (hDD.step hP5 hk5).step hP6 hk6⟩

/-- Behind var. -/
theorem vars_any (hT : Toks T) (hfx : FxA T) (h : RD wb tb cap T w0 m w s) (hg : Good T s) (hs : Stk T s) (i : Int) (hi : At s i) (hcn : s.code = 0 → CntE (mdE m) s) :
    Calls Tryz.prog 96 #[.pointer (some ⟨wb, 0, none⟩), .int .i64 i] w (RDecl wb tb cap T w0 m (itemsN T (mdE m) s).1 (itemsN T (mdE m) s).2) := by
  by_cases hc : s.code = 0
  · obtain rfl := hi hc
    exact vars_live hT hfx h hg hc (hcn hc)
  · refine (vars_dead h hg hc i).mono ?_
    rintro e w' ⟨rfl, rfl⟩
    have e1 := (go2_itemsN hT (mdE m) hg hs).still hc
    unfold RDecl
    rw [e1]
    exact ⟨_, m, rfl, fun h0 => absurd h0 hc, rfl, fun h0 => absurd h0 hc, h⟩

end

end Go.Proofs.YtklobognaldjpaaGreat
