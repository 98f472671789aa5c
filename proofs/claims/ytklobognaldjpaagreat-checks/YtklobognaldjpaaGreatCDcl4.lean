/- The reference's walk: names with commas. -/
import Derived.Test.YtklobognaldjpaaGreatCDcl3
import Derived.Test.YtklobognaldjpaaGreatCNam4
import Derived.Test.YtklobognaldjpaaGreatCWk9
namespace Go.Proofs.YtklobognaldjpaaGreat
open Go.RowKit

/-- What a declaration does, that ends at r with env. -/
def RDecl (wb tb cap : Nat) (T : List Tok) (w0 : World) (m : Option Nm) (env : Option Env) (r : PS) (e : Ending) (w' : World) : Prop :=
  ∃ (j : Int) (m' : Option Nm), e = .returned (.int .i64 j) ∧ At r j ∧ m'.isSome = m.isSome ∧ (r.code = 0 → mdE m' = env) ∧ RD wb tb cap T w0 m' w' r

theorem isSome_declE {T : List Tok} {m m' : Option Nm} {here : Bool} {s0 s : PS} {kind args : Nat} (h : mdE m' = (declE T (mdE m) here s0 kind args s).1) : m'.isSome = m.isSome := by
  have e : (declE T (mdE m) here s0 kind args s).1.isSome = (mdE m).isSome := by
    unfold declE
    split
    · rename_i h0; rw [h0]
    · rename_i h0; rw [h0]
      split
      · split <;> rfl
      · rfl
  rw [← h] at e
  unfold mdE at e
  simpa using e

section
variable {wb tb cap : Nat} {T : List Tok} {m : Option Nm} {n : Nm} {w w0 : World} {s : PS}

theorem below_made {w w' : World} (hg : w.grownBy w' none) : Below w.heap.size w w' := (Below.refl _ _).grown hg (Nat.le_refl _) (fun k hk => by cases hk)

theorem ofK_name (s : PS) : ofK T .name s = (nameP T s).2 := by unfold ofK nameP; split <;> rfl
theorem ofK_num (s : PS) : ofK T .number s = (numP T s).2 := by unfold ofK numP; split <;> rfl

set_option maxRecDepth 100000 in
set_option maxHeartbeats 1000000 in
theorem here_dead (h : RD wb tb cap T w0 m w s) (hg : Good T s) (hc : s.code ≠ 0) (i : Int) :
    Calls Tryz.prog 128 #[.pointer (some ⟨wb, 0, none⟩), .int .i64 i] w fun e w' => e = .returned (.int .i64 ((T.length - 1 : Nat) : Int)) ∧ w' = w := by
  have hfa := h.rw.fault
  have hz' : ((s.code : Int) == 0) = false := by simp; omega
  have hE := refEnd_any h.rw hg
  clear hc
  go_enter Tryz.func128, Tryz.ntmps128
  go_wp2
  go_loopw [1, 5, 6] (fun _ _ _ wr => wr = w) (fun _ _ _ _ => 0)
  case atStart => rfl
  case round =>
    obtain rfl := hrel
    go_wp2_with (go_at_call 126; refine hE.mono ?_; rintro e w1 ⟨rfl, h1⟩; obtain rfl := h1.symm; clear h1)
    go_ret
    exact ⟨rfl, rfl⟩

set_option maxRecDepth 1000000 in
set_option maxHeartbeats 2000000 in
theorem here_live (hT : Toks T) (hfx : FxA T) (h : RD wb tb cap T w0 m w s) (hg : Good T s) (hc : s.code = 0) (hcn : CntE (mdE m) s) :
    Calls Tryz.prog 128 #[.pointer (some ⟨wb, 0, none⟩), .int .i64 s.next] w (RDecl wb tb cap T w0 m (hereN T (mdE m) s).1 (hereN T (mdE m) s).2) := by
  have hsz := h.rw.size
  obtain ⟨i0, hi0, hz0, hz1, hz2⟩ := info_parts Tryz.infoInt
  go_enter Tryz.func128, Tryz.ntmps128
  go_wp2
  go_loopw [1, 5, 6] (fun i _ _ wr => ∃ (s' : PS) (mm : Option Nm) (nn : Nat), i = .int .i64 (s'.next : Int) ∧ RD wb tb cap T w0 mm wr s' ∧ mm.isSome = m.isSome ∧ Good T s' ∧ s'.code = 0 ∧ CntE (mdE mm) s' ∧ T.length ≤ s'.next + nn ∧ Hid (hereLoopN T nn (oneN T (mdE mm) s').1 (oneN T (mdE mm) s').2 = hereN T (mdE m) s)) (fun i _ _ _ => T.length - (intOf i).toNat)
  case atStart => exact ⟨s, m, T.length, rfl, h, rfl, hg, hc, hcn, by omega, rfl⟩
  case round =>
    obtain ⟨s', mm, nn, rfl, hD, hsm, hg2, hc2, hcn2, hn2, HL⟩ := hrel
    have hg2' : s'.next < T.length := hg2
    have hs2 : Stk T s' := fun h => absurd hc2 h
    have hfa := hD.rw.fault
    rw [hc2] at hfa
    have hO := of_any hT hD.rw hg2 hs2 s'.next (fun _ => rfl) .name 1 rfl (.inl (by decide))
    rw [ofK_name] at hO
    have HSM : Hid (mm.isSome = m.isSome) := hsm
    clear hsm
    cases hk : kindIs T .name s' with
    | false =>
      have e1 : (nameP T s').2 = fails T 4 s' := by unfold nameP; rw [if_neg (by rw [hk]; simp)]
      have e4 : (fails T 4 s').code = 4 := by simp [fails, hc2]
      have hd4 : (fails T 4 s').code ≠ 0 := by rw [e4]; decide
      have e2 : oneN T (mdE mm) s' = (mdE mm, fails T 4 s') := by unfold oneN; rw [e1, declE_dead hd4]
      have hst : Stk T (fails T 4 s') := stk_fails 4 s'
      have hno : sees T (bs [44]) (fails T 4 s') = false := sees_stuck hT hst hd4 (bs_ne _ (by simp))
      have HE : Hid (hereN T (mdE m) s = (mdE mm, fails T 4 s')) := by show _ = _; rw [← HL.out, e2, hereLoopN_stop hno]
      have hI := fun W (hP : RW wb tb cap T mm W (fails T 4 s')) => is_any hT hP (good_fails hT 4 s') hst (fails T 4 s').next (fun _ => rfl) (bs [44]) (hfx _ (by decide))
      rw [hno] at hI
      rw [e1] at hO
      generalize fails T 4 s' = s9 at *
      have hD9 := hD
      clear HL hk e1 e2 hno hd4 hD
      go_wp2_with (first
        | (go_at_call 124; refine hO.mono ?_; rintro e w1 ⟨rfl, hP1, hk1⟩; have hf1 := hP1.fault; rw [e4] at hf1)
        | (go_at_call 94; refine (hI _ hP1).mono ?_; rintro e w2 ⟨rfl, h2⟩; obtain rfl := h2.symm; clear h2))
      go_ret
      unfold RDecl
      rw [HE.out]
      exact ⟨_, mm, rfl, fun _ => rfl, HSM.out, fun _ => rfl, hD9.step hP1 hk1⟩
    | true =>
      have e1 : (nameP T s').2 = adv s' := by unfold nameP; rw [if_pos hk]
      have e2 : oneN T (mdE mm) s' = declE T (mdE mm) true s' 0 0 (adv s') := by unfold oneN; rw [e1]
      rw [e1] at hO
      rw [e2] at HL
      have hga := good_adv_kind hT hg2 hk (by decide)
      have hga' : s'.next + 1 < T.length := hga
      have hsa : Stk T (adv s') := stk_adv hc2
      have ei : (((adv s').next : Nat) : Int) = (s'.next : Int) + 1 := by show ((s'.next + 1 : Nat) : Int) = _; omega
      rw [ei] at hO
      have hG := go2_declE hT (mdE mm) true s' 0 0 hga hsa
      have hat : At (declE T (mdE mm) true s' 0 0 (adv s')).2 ((s'.next : Int) + 1) := at_declE (fun _ => ei.symm)
      have hDe := fun W (hP : RD wb tb cap T w0 mm W (adv s')) va => declare_any hP hg2 true ⟨#[]⟩ 0 (fun _ => rfl) va 1 1 0 (fun n hn _ => by subst hn; exact Nat.le_trans (CntE.row (E := n.E) hcn2 true) (by omega))
      have hcd := fun hz => cnt_declE (T := T) (here := true) (kind := 0) (args := 0) hcn2 (show s'.next + 1 ≤ (adv s').next from Nat.le_refl _) hz
      have hlv : (declE T (mdE mm) true s' 0 0 (adv s')).2.code = 0 → (declE T (mdE mm) true s' 0 0 (adv s')).2 = adv s' := declE_live
      unfold cellV at hDe
      have HS : Hid (∀ m', mdE m' = (declE T (mdE mm) true s' 0 0 (adv s')).1 → m'.isSome = m.isSome) := by
        show ∀ m', _
        intro m' hm; rw [isSome_declE hm]; exact HSM.out
      generalize declE T (mdE mm) true s' 0 0 (adv s') = D at *
      have hI := fun W m' (hP : RW wb tb cap T m' W D.2) => is_any hT hP hG.good hG.stk ((s'.next : Int) + 1) hat (bs [44]) (hfx _ (by decide))
      cases hz : sees T (bs [44]) D.2 with
      | true =>
        rw [hz] at hI
        have hc3 := code_of_sees hT hG.stk (bs_ne _ (by simp)) hz
        have e3 := hlv hc3
        have hga3 := good_adv hT hG.good hz (bs_ne _ (by simp))
        have hga3' : s'.next + 2 < T.length := by have h9 : D.2.next + 1 < T.length := hga3; rw [e3] at h9; exact h9
        obtain ⟨n2, rfl⟩ : ∃ n2, nn = n2 + 1 := ⟨nn - 1, by omega⟩
        have HL2 : Hid (hereLoopN T n2 (oneN T D.1 (adv D.2)).1 (oneN T D.1 (adv D.2)).2 = hereN T (mdE m) s) := by show _ = _; rw [← HL.out, hereLoopN_go hz]
        have HC := hcd hc3
        have HN : Hid ((adv D.2).next = s'.next + 2) := by show _ = _; rw [e3]; rfl
        clear HL hz e1 e2 e3 hlv hcd hk
        go_wp2_with (first
          | (go_at_call 124; refine hO.mono ?_; rintro e w1 ⟨rfl, hP1, hk1⟩; have hf1 := hP1.fault; rw [show (adv s').code = 0 from hc2] at hf1)
          | (at_make; have _q := hP1; refine wpList_make_full _ rfl _ _ 23 rfl 0 3 i0 _ 1 Tryz.underlying23 hi0 hz0 hz1 .i64 .i64 1 1 1 rfl rfl rfl rfl ?xb2 ?xb3 (Nat.zero_le _) ?xhK
             case xb2 => rw [hz2]; decide
             case xb3 => decide
             intro wm hom hgm
             clear hom)
          | (go_at_call 125; refine (hDe _ ((hD.step hP1 hk1).below (below_made hgm)) _).mono ?_; rintro e w2 ⟨rfl, m2, hm2, hD2⟩)
          | (go_at_call 94; refine (hI _ _ hD2.rw).mono ?_; rintro e w3 ⟨rfl, h3⟩; obtain rfl := h3.symm; clear h3))
        go_roundw
        case rel => exact ⟨adv D.2, m2, n2, by rw [HN.out]; go_num, hD2.at _, HS.out _ hm2, hga3, hc3, by rw [hm2]; exact HC.le (Nat.le_succ _), by rw [HN.out]; omega, by rw [hm2]; exact HL2⟩
        case measure => simp [intOf]; omega
      | false =>
        rw [hz] at hI
        have HE : Hid (hereN T (mdE m) s = D) := by show _ = _; rw [← HL.out, hereLoopN_stop hz]
        clear HL hz e1 e2 hlv hcd hk
        go_wp2_with (first
          | (go_at_call 124; refine hO.mono ?_; rintro e w1 ⟨rfl, hP1, hk1⟩; have hf1 := hP1.fault; rw [show (adv s').code = 0 from hc2] at hf1)
          | (at_make; have _q := hP1; refine wpList_make_full _ rfl _ _ 23 rfl 0 3 i0 _ 1 Tryz.underlying23 hi0 hz0 hz1 .i64 .i64 1 1 1 rfl rfl rfl rfl ?yb2 ?yb3 (Nat.zero_le _) ?yhK
             case yb2 => rw [hz2]; decide
             case yb3 => decide
             intro wm hom hgm
             clear hom)
          | (go_at_call 125; refine (hDe _ ((hD.step hP1 hk1).below (below_made hgm)) _).mono ?_; rintro e w2 ⟨rfl, m2, hm2, hD2⟩)
          | (go_at_call 94; refine (hI _ _ hD2.rw).mono ?_; rintro e w3 ⟨rfl, h3⟩; obtain rfl := h3.symm; clear h3))
        go_ret
        unfold RDecl
        rw [HE.out]
        exact ⟨_, m2, rfl, hat, HS.out _ hm2, fun _ => hm2, hD2⟩

/-- Names with commas, which are declared here. -/
theorem here_any (hT : Toks T) (hfx : FxA T) (h : RD wb tb cap T w0 m w s) (hg : Good T s) (hs : Stk T s) (i : Int) (hi : At s i) (hcn : s.code = 0 → CntE (mdE m) s) :
    Calls Tryz.prog 128 #[.pointer (some ⟨wb, 0, none⟩), .int .i64 i] w (RDecl wb tb cap T w0 m (hereN T (mdE m) s).1 (hereN T (mdE m) s).2) := by
  by_cases hc : s.code = 0
  · obtain rfl := hi hc
    exact here_live hT hfx h hg hc (hcn hc)
  · refine (here_dead h hg hc i).mono ?_
    rintro e w' ⟨rfl, rfl⟩
    have e1 := (go2_hereN hT (mdE m) hg hs).still hc
    unfold RDecl
    rw [e1]
    exact ⟨_, m, rfl, fun h0 => absurd h0 hc, rfl, fun h0 => absurd h0 hc, h⟩

end

end Go.Proofs.YtklobognaldjpaaGreat
