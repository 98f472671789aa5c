/- The reference's walk through statements that begin with a name, and through those that read. -/
import Derived.Test.YtklobognaldjpaaGreatCWk9
namespace Go.Proofs.YtklobognaldjpaaGreat
open Go.RowKit

/-- What going through a statement does, that ends at r. -/
def WSt (wb tb cap : Nat) (T : List Tok) (m : Option Nm) (r : PS) (w : World) (e : Ending) (w' : World) : Prop :=
  ∃ j : Int, e = .returned (.int .i64 j) ∧ At r j ∧ RW wb tb cap T m w' r ∧ Par wb w w'

/-- What a function of the walk that goes through statements does, where nothing is run. -/
def RSK (wb tb cap : Nat) (T : List Tok) (m : Option Nm) (F : Nat) (d : Int) (pf : PS → PS) : Prop :=
  ∀ w s i (live : Bool), RW wb tb cap T m w s → Good T s → Stk T s → At s i → Calls Tryz.prog F #[.pointer (some ⟨wb, 0, none⟩), .int .i64 i, .int .i64 d, .bool live] w (WSt wb tb cap T m (pf s) w)

section
variable {wb tb cap : Nat} {T : List Tok} {m : Option Nm} {n : Nm} {w : World} {s : PS} {d : Int} {ex : PS → Ex × PS}

theorem at_assignE {mE : Option Env} {s0 s : PS} {i : Int} (h : At s i) : At (assignE T mE s0 s) i := by
  unfold assignE
  split
  · exact h
  · split
    · exact h
    · exact at_wantsE h

theorem at_self (s : PS) : At s s.next := fun _ => rfl

set_option maxRecDepth 1000000 in
set_option maxHeartbeats 1000000 in
theorem puts_any (hT : Toks T) (hF : ROK wb tb cap T m 177 (d + 1) ex) (hM : Mon T ex) (hS : SM T ex) (hfx : FxA T)
    (hd0 : 0 ≤ d) (hd1 : d ≤ 14) (h : RW wb tb cap T m w s) (hc : s.code = 0) (hgaa : Good T (adv (adv s))) (live : Bool) :
    Calls Tryz.prog 196 #[.pointer (some ⟨wb, 0, none⟩), .int .i64 s.next, .int .i64 d, .bool live] w (WSt wb tb cap T m (ex (want T (bs [58, 61]) (indexOf T ex (wantsE T (mdE m) s 1 (adv (adv s)))).2)).2 w) := by
  have hsz := h.size
  have hgaa' : s.next + 2 < T.length := hgaa
  have hg : Good T s := by show s.next < T.length; omega
  have hsaa : Stk T (adv (adv s)) := fun h => absurd hc h
  have hg1 := (mon_wantsE hT (mdE m) s 1 hgaa).1
  have hs1 := stk_wantsE (mdE m) s 1 hsaa
  have hi1 : At (wantsE T (mdE m) s 1 (adv (adv s))) ((s.next : Int) + 2) := at_wantsE (fun _ => by show _ = ((s.next + 1 + 1 : Nat) : Int); omega)
  have hW := wants_any h hg hc 1
  have hQ : ∀ W, (∀ nx, RW wb tb cap T m W (wantsE T (mdE m) s 1 { s with next := nx })) → RW wb tb cap T m W (wantsE T (mdE m) s 1 (adv (adv s))) := fun W hW => hW (s.next + 2)
  generalize wantsE T (mdE m) s 1 (adv (adv s)) = s1 at *
  have hma := hM _ hg1
  have hsma := hS _ hs1
  have hX := fun W lv (hP : RW wb tb cap T m W s1) => hF W s1 _ lv hP hg1 hs1 hi1
  have hN := fun W j (hj : At (ex s1).2 j) (hP : RW wb tb cap T m W (ex s1).2) => need_any hT hP hma.1 hsma.1 j hj (bs [93]) (hfx [93] (by decide))
  have HE : Hid ((indexOf T ex s1).2 = want T (bs [93]) (ex s1).2) := rfl
  have hg3 := (mon_want hT (f := bs [93]) (bs_ne _ (by simp)) hma.1).1
  have hs3 := (sm_want hT (f := bs [93]) (bs_ne _ (by simp)) hsma.1).1
  rw [HE.out]
  clear HE
  generalize want T (bs [93]) (ex s1).2 = s3 at *
  have hN2 := fun W (hP : RW wb tb cap T m W s3) => need_any hT hP hg3 hs3 s3.next (at_self _) (bs [58, 61]) (hfx [58, 61] (by decide))
  have hg4 := (mon_want hT (f := bs [58, 61]) (bs_ne _ (by simp)) hg3).1
  have hs4 := (sm_want hT (f := bs [58, 61]) (bs_ne _ (by simp)) hs3).1
  generalize want T (bs [58, 61]) s3 = s4 at *
  have hX2 := fun W lv (hP : RW wb tb cap T m W s4) => hF W s4 s4.next lv hP hg4 hs4 (at_self _)
  go_enter Tryz.func196, Tryz.ntmps196
  go_wp2_with (first
    | (go_at_call 194; refine hW.mono ?_; rintro e w1 ⟨k1, rfl, hQ1, hkQ1, _⟩; have hQ2 := hQ _ hQ1; clear hQ1)
    | (go_at_call 176; refine (unit_any hQ2 _).mono ?_; rintro e wu ⟨rfl, hu⟩; obtain rfl := hu.symm; clear hu)
    | (go_at_call 178; refine (lives_any hP5 _).mono ?_; rintro e wl ⟨rfl, hl⟩; obtain rfl := hl.symm; clear hl)
    | (go_at_call 178; refine (lives_any hP4 _).mono ?_; rintro e wl ⟨rfl, hl⟩; obtain rfl := hl.symm; clear hl)
    | (go_at_call 177; refine (hX2 _ _ hP4).mono ?_; rintro e w5 ⟨v5, j5, rfl, ha5, hP5, hk5⟩)
    | (go_at_call 123; refine (hN2 _ hP3).mono ?_; rintro e w4 ⟨rfl, hP4, hk4⟩)
    | (go_at_call 123; refine (hN _ _ ha2.1 hP2).mono ?_; rintro e w3 ⟨rfl, hP3, hk3⟩)
    | (go_at_call 177; refine (hX _ _ hQ2).mono ?_; rintro e w2 ⟨v2, j2, rfl, ha2, hP2, hk2⟩))
  go_ret
  exact ⟨_, rfl, ha5.1, hP5, (((hkQ1.trans hk2).trans hk3).trans hk4).trans hk5⟩

set_option maxRecDepth 1000000 in
set_option maxHeartbeats 1000000 in
theorem named_any (hT : Toks T) (hF : ROK wb tb cap T m 177 (d + 1) ex) (hM : Mon T ex) (hS : SM T ex) (hfx : FxA T)
    (hd0 : 0 ≤ d) (hd1 : d ≤ 14) (h : RW wb tb cap T m w s) (hg : Good T s) (hc : s.code = 0) (hk : kindIs T .name s = true) (live : Bool) :
    Calls Tryz.prog 173 #[.pointer (some ⟨wb, 0, none⟩), .int .i64 s.next, .int .i64 d, .bool live] w (WSt wb tb cap T m (namedStN T (mdE m) ex s).2 w) := by
  have hsz := h.size
  have hg' : s.next < T.length := hg
  have hmo := h.mode_
  have hga := good_adv_kind hT hg hk (by decide)
  have hga' : s.next + 1 < T.length := hga
  have hsa : Stk T (adv s) := stk_adv hc
  have hia : At (adv s) ((s.next : Int) + 1) := fun _ => by show _ = ((s.next + 1 : Nat) : Int); omega
  have h40 := is_any hT h.adv hga hsa ((s.next : Int) + 1) hia (bs [40]) (hfx [40] (by decide))
  have h91 := is_any hT h.adv hga hsa ((s.next : Int) + 1) hia (bs [91]) (hfx [91] (by decide))
  have h58 := is_any hT h.adv hga hsa ((s.next : Int) + 1) hia (bs [58, 61]) (hfx [58, 61] (by decide))
  cases h1 : sees T (bs [40]) (adv s) with
  | true =>
    rw [h1] at h40
    rw [sees_one (b := [91]) h1 (by decide)] at h91
    rw [sees_one (b := [58, 61]) h1 (by decide)] at h58
    have hgaa := good_adv hT hga h1 (bs_ne _ (by simp))
    have HE : Hid ((namedStN T (mdE m) ex s).2 = (argsOf T ex (callE T (mdE m) s 2 (adv (adv s)))).2) := by show _ = _; unfold namedStN; rw [if_pos h1]
    have hC := fun lv => call_any hT hF hM hS (hfx [44] (by decide)) (hfx [41] (by decide)) h hc hgaa 2 (.inl rfl) lv
    generalize (argsOf T ex (callE T (mdE m) s 2 (adv (adv s)))).2 = s9 at *
    clear h1
    go_enter Tryz.func173, Tryz.ntmps173
    go_wp2_with (first
      | (go_at_call 94; have _q := mk2; refine h40.mono ?_; rintro e w1 ⟨rfl, h1⟩; obtain rfl := h1.symm; clear h1)
      | (go_at_call 94; have _q := mk1; refine h91.mono ?_; rintro e w1 ⟨rfl, h1⟩; obtain rfl := h1.symm; clear h1; have mk2 : Hid True := trivial)
      | (go_at_call 94; refine h58.mono ?_; rintro e w1 ⟨rfl, h1⟩; obtain rfl := h1.symm; clear h1; have mk1 : Hid True := trivial)
      | (go_at_call 176; refine (unit_any h _).mono ?_; rintro e wu ⟨rfl, hu⟩; obtain rfl := hu.symm; clear hu)
      | (go_at_call 197; refine (hC _).mono ?_; rintro e w2 ⟨rfl, hP2, hk2⟩))
    go_ret
    unfold WSt
    rw [HE.out]
    exact ⟨_, rfl, at_self _, hP2, hk2⟩
  | false =>
    rw [h1] at h40
    cases h2 : sees T (bs [91]) (adv s) with
    | true =>
      rw [h2] at h91
      rw [sees_one (b := [58, 61]) h2 (by decide)] at h58
      have hgaa := good_adv hT hga h2 (bs_ne _ (by simp))
      have HE : Hid ((namedStN T (mdE m) ex s).2 = (ex (want T (bs [58, 61]) (indexOf T ex (wantsE T (mdE m) s 1 (adv (adv s)))).2)).2) := by show _ = _; unfold namedStN; rw [if_neg (by rw [h1]; simp), if_pos h2]
      have hC := puts_any hT hF hM hS hfx hd0 hd1 h hc hgaa live
      generalize (ex (want T (bs [58, 61]) (indexOf T ex (wantsE T (mdE m) s 1 (adv (adv s)))).2)).2 = s9 at *
      clear h1 h2
      go_enter Tryz.func173, Tryz.ntmps173
      go_wp2_with (first
        | (go_at_call 94; have _q := mk2; refine h40.mono ?_; rintro e w1 ⟨rfl, h1⟩; obtain rfl := h1.symm; clear h1)
        | (go_at_call 94; have _q := mk1; refine h91.mono ?_; rintro e w1 ⟨rfl, h1⟩; obtain rfl := h1.symm; clear h1; have mk2 : Hid True := trivial)
        | (go_at_call 94; refine h58.mono ?_; rintro e w1 ⟨rfl, h1⟩; obtain rfl := h1.symm; clear h1; have mk1 : Hid True := trivial)
        | (go_at_call 196; refine hC.mono ?_; rintro e w2 ⟨j2, rfl, ha2, hP2, hk2⟩))
      go_ret
      unfold WSt
      rw [HE.out]
      exact ⟨_, rfl, ha2, hP2, hk2⟩
    | false =>
      rw [h2] at h91
      cases h3 : sees T (bs [58, 61]) (adv s) with
      | false =>
        rw [h3] at h58
        have HE : Hid ((namedStN T (mdE m) ex s).2 = fails T 4 (adv s)) := by
          show _ = _; unfold namedStN; rw [if_neg (by rw [h1]; simp), if_neg (by rw [h2]; simp), if_neg (by rw [h3]; simp)]
          refine (hS _ (stk_fails 4 (adv s))).2 ?_
          have : (fails T 4 (adv s)).code = 4 := by simp [fails, adv, hc]
          rw [this]; decide
        have hW := wrong_any h.adv hga 4 ((s.next : Int) + 1) hia
        clear h1 h2 h3
        go_enter Tryz.func173, Tryz.ntmps173
        go_wp2_with (first
          | (go_at_call 94; have _q := mk2; refine h40.mono ?_; rintro e w1 ⟨rfl, h1⟩; obtain rfl := h1.symm; clear h1)
          | (go_at_call 94; have _q := mk1; refine h91.mono ?_; rintro e w1 ⟨rfl, h1⟩; obtain rfl := h1.symm; clear h1; have mk2 : Hid True := trivial)
          | (go_at_call 94; refine h58.mono ?_; rintro e w1 ⟨rfl, h1⟩; obtain rfl := h1.symm; clear h1; have mk1 : Hid True := trivial)
          | (go_at_call 98; refine hW.mono ?_; rintro e w2 ⟨rfl, hP2, hk2⟩))
        go_ret
        unfold WSt
        rw [HE.out]
        exact ⟨_, rfl, at_self _, hP2, hk2⟩
      | true =>
        rw [h3] at h58
        have hgaa := good_adv hT hga h3 (bs_ne _ (by simp))
        have hsaa : Stk T (adv (adv s)) := fun h => absurd hc h
        have HE : Hid ((namedStN T (mdE m) ex s).2 = (ex (assignE T (mdE m) s (adv (adv s)))).2) := by show _ = _; unfold namedStN; rw [if_neg (by rw [h1]; simp), if_neg (by rw [h2]; simp), if_pos h3]
        have hg1 := (mon_assignE hT (mdE m) s hgaa).1
        have hs1 := stk_assignE (mdE m) s hsaa
        have hi1 : At (assignE T (mdE m) s (adv (adv s))) ((s.next : Int) + 2) := at_assignE (fun _ => by show _ = ((s.next + 1 + 1 : Nat) : Int); omega)
        cases m with
        | none =>
          simp only [mdI] at hmo
          have hQ2 : RW wb tb cap T none w (assignE T (mdE none) s (adv (adv s))) := h.at (s.next + 2)
          have hR := result_none h s.next
          generalize assignE T (mdE none) s (adv (adv s)) = s1 at *
          have hX := fun W lv (hP : RW wb tb cap T none W s1) => hF W s1 _ lv hP hg1 hs1 hi1
          clear h1 h2 h3
          go_enter Tryz.func173, Tryz.ntmps173
          go_wp2_with (first
            | (go_at_call 94; have _q := mk2; refine h40.mono ?_; rintro e w1 ⟨rfl, h1⟩; obtain rfl := h1.symm; clear h1)
            | (go_at_call 94; have _q := mk1; refine h91.mono ?_; rintro e w1 ⟨rfl, h1⟩; obtain rfl := h1.symm; clear h1; have mk2 : Hid True := trivial)
            | (go_at_call 94; refine h58.mono ?_; rintro e w1 ⟨rfl, h1⟩; obtain rfl := h1.symm; clear h1; have mk1 : Hid True := trivial)
            | (go_at_call 193; refine hR.mono ?_; rintro e w1 ⟨rfl, h1⟩; obtain rfl := h1.symm; clear h1)
            | (go_at_call 176; refine (unit_any hQ2 _).mono ?_; rintro e wu ⟨rfl, hu⟩; obtain rfl := hu.symm; clear hu)
            | (go_at_call 177; refine (hX _ _ hQ2).mono ?_; rintro e w2 ⟨v2, j2, rfl, ha2, hP2, hk2⟩)
            | (go_at_call 178; refine (lives_any hP2 _).mono ?_; rintro e wl ⟨rfl, hl⟩; obtain rfl := hl.symm; clear hl))
          go_ret
          unfold WSt
          rw [HE.out]
          exact ⟨_, rfl, ha2.1, hP2, hk2⟩
        | some n =>
          simp only [mdI] at hmo
          have hR := result_any h hg
          cases hr : n.E.isRes (cur T s).text with
          | true =>
            rw [hr] at hR
            have hQ2 : ∀ q, RW wb tb cap T (some n) (w.drewN q) (assignE T (mdE (some n)) s (adv (adv s))) := fun q => by
              show RW wb tb cap T (some n) (w.drewN q) (if n.E.isRes (cur T s).text then _ else _)
              rw [if_pos hr]; exact (h.at (s.next + 2)).drew q
            generalize assignE T (mdE (some n)) s (adv (adv s)) = s1 at *
            have hX := fun W lv (hP : RW wb tb cap T (some n) W s1) => hF W s1 _ lv hP hg1 hs1 hi1
            clear h1 h2 h3 hr
            go_enter Tryz.func173, Tryz.ntmps173
            go_wp2_with (first
              | (go_at_call 94; have _q := mk2; refine h40.mono ?_; rintro e w1 ⟨rfl, h1⟩; obtain rfl := h1.symm; clear h1)
              | (go_at_call 94; have _q := mk1; refine h91.mono ?_; rintro e w1 ⟨rfl, h1⟩; obtain rfl := h1.symm; clear h1; have mk2 : Hid True := trivial)
              | (go_at_call 94; refine h58.mono ?_; rintro e w1 ⟨rfl, h1⟩; obtain rfl := h1.symm; clear h1; have mk1 : Hid True := trivial)
              | (go_at_call 193; refine hR.mono ?_; rintro e w1 ⟨rfl, q, hq⟩; obtain rfl := hq)
              | (go_at_call 176; refine (unit_any (hQ2 _) _).mono ?_; rintro e wu ⟨rfl, hu⟩; obtain rfl := hu.symm; clear hu)
              | (go_at_call 177; refine (hX _ _ (hQ2 _)).mono ?_; rintro e w2 ⟨v2, j2, rfl, ha2, hP2, hk2⟩)
              | (go_at_call 178; refine (lives_any hP2 _).mono ?_; rintro e wl ⟨rfl, hl⟩; obtain rfl := hl.symm; clear hl))
            go_ret
            unfold WSt
            rw [HE.out]
            exact ⟨_, rfl, ha2.1, hP2, ((Par.refl _ _).drewN q).trans hk2⟩
          | false =>
            rw [hr] at hR
            have hW := fun q => wants_any (h.drew q) hg hc 0
            have hQ : ∀ W, (∀ nx, RW wb tb cap T (some n) W (wantsE T (mdE (some n)) s 0 { s with next := nx })) → RW wb tb cap T (some n) W (assignE T (mdE (some n)) s (adv (adv s))) := fun W hW => by
              show RW wb tb cap T (some n) W (if n.E.isRes (cur T s).text then _ else wantsE T (some n.E) s 0 (adv (adv s)))
              rw [if_neg (by rw [hr]; simp)]; exact hW (s.next + 2)
            generalize assignE T (mdE (some n)) s (adv (adv s)) = s1 at *
            have hX := fun W lv (hP : RW wb tb cap T (some n) W s1) => hF W s1 _ lv hP hg1 hs1 hi1
            clear h1 h2 h3 hr
            go_enter Tryz.func173, Tryz.ntmps173
            go_wp2_with (first
              | (go_at_call 94; have _q := mk2; refine h40.mono ?_; rintro e w1 ⟨rfl, h1⟩; obtain rfl := h1.symm; clear h1)
              | (go_at_call 94; have _q := mk1; refine h91.mono ?_; rintro e w1 ⟨rfl, h1⟩; obtain rfl := h1.symm; clear h1; have mk2 : Hid True := trivial)
              | (go_at_call 94; refine h58.mono ?_; rintro e w1 ⟨rfl, h1⟩; obtain rfl := h1.symm; clear h1; have mk1 : Hid True := trivial)
              | (go_at_call 193; refine hR.mono ?_; rintro e w1 ⟨rfl, q, hq⟩; obtain rfl := hq)
              | (go_at_call 194; refine (hW _).mono ?_; rintro e w1 ⟨k1, rfl, hQ1, hkQ1, _⟩; have hQ2 := hQ _ hQ1; clear hQ1)
              | (go_at_call 176; refine (unit_any hQ2 _).mono ?_; rintro e wu ⟨rfl, hu⟩; obtain rfl := hu.symm; clear hu)
              | (go_at_call 177; refine (hX _ _ hQ2).mono ?_; rintro e w2 ⟨v2, j2, rfl, ha2, hP2, hk2⟩)
              | (go_at_call 178; refine (lives_any hP2 _).mono ?_; rintro e wl ⟨rfl, hl⟩; obtain rfl := hl.symm; clear hl))
            go_ret
            unfold WSt
            rw [HE.out]
            exact ⟨_, rfl, ha2.1, hP2, (((Par.refl _ _).drewN q).trans hkQ1).trans hk2⟩

set_option maxRecDepth 1000000 in
set_option maxHeartbeats 1000000 in
theorem reads_any (hT : Toks T) (h : RW wb tb cap T m w s) (hc : s.code = 0) (hga : Good T (adv s)) (live : Bool) :
    Calls Tryz.prog 180 #[.pointer (some ⟨wb, 0, none⟩), .int .i64 s.next, .bool live] w (WSt wb tb cap T m (readN T (mdE m) (adv s)) w) := by
  have hsz := h.size
  have hga' : s.next + 1 < T.length := hga
  have hsa : Stk T (adv s) := stk_adv hc
  have hia : At (adv s) ((s.next : Int) + 1) := fun _ => by show _ = ((s.next + 1 : Nat) : Int); omega
  have hO := of_any hT h.adv hga hsa ((s.next : Int) + 1) hia .name 1 rfl (.inl (by decide))
  cases hk : kindIs T .name (adv s) with
  | false =>
    have HE : Hid (readN T (mdE m) (adv s) = fails T 4 (adv s)) := by show _ = _; unfold readN; rw [if_neg (by rw [hk]; simp)]
    have e1 : ofK T .name (adv s) = fails T 4 (adv s) := by unfold ofK; rw [if_neg (by rw [hk]; simp)]
    have hO' := hO
    clear hO
    have hO : Calls Tryz.prog 124 #[.pointer (some ⟨wb, 0, none⟩), .int .i64 ((s.next : Int) + 1), .int .i64 1] w fun e w' => e = .returned (.int .i64 ((fails T 4 (adv s)).next : Int)) ∧ RW wb tb cap T m w' (fails T 4 (adv s)) ∧ Par wb w w' := by
      have := hO'
      rw [e1] at this
      exact this
    clear hO'
    have hc4 : (fails T 4 (adv s)).code = 4 := by simp [fails, adv, hc]
    clear hk e1
    generalize fails T 4 (adv s) = s9 at *
    go_enter Tryz.func180, Tryz.ntmps180
    go_wp2_with (go_at_call 124; refine hO.mono ?_; rintro e w1 ⟨rfl, hP1, hk1⟩; have hfa := hP1.fault; rw [hc4] at hfa)
    go_ret
    unfold WSt
    rw [HE.out]
    exact ⟨_, rfl, at_self _, hP1, hk1⟩
  | true =>
    have HE : Hid (readN T (mdE m) (adv s) = wantsE T (mdE m) (adv s) 0 (adv (adv s))) := by show _ = _; unfold readN; rw [if_pos hk]
    have e1 : ofK T .name (adv s) = adv (adv s) := by unfold ofK; rw [if_pos hk]
    have hO' := hO
    clear hO
    have hO : Calls Tryz.prog 124 #[.pointer (some ⟨wb, 0, none⟩), .int .i64 ((s.next : Int) + 1), .int .i64 1] w fun e w' => e = .returned (.int .i64 ((s.next : Int) + 2)) ∧ RW wb tb cap T m w' (adv (adv s)) ∧ Par wb w w' := by
      have := hO'
      rw [e1, show (((adv (adv s)).next : Nat) : Int) = (s.next : Int) + 2 from by show ((s.next + 1 + 1 : Nat) : Int) = _; omega] at this
      exact this
    clear hO'
    have hW := fun W (hP : RW wb tb cap T m W (adv s)) => wants_any hP hga (show (adv s).code = 0 from hc) 0
    rw [show (((adv s).next : Nat) : Int) = (s.next : Int) + 1 from by show ((s.next + 1 : Nat) : Int) = _; omega] at hW
    have HA : Hid (At (wantsE T (mdE m) (adv s) 0 (adv (adv s))) ((s.next : Int) + 2)) := at_wantsE (fun _ => by show _ = ((s.next + 1 + 1 : Nat) : Int); omega)
    clear hk e1
    have hQ : ∀ W, (∀ nx, RW wb tb cap T m W (wantsE T (mdE m) (adv s) 0 { adv s with next := nx })) → RW wb tb cap T m W (wantsE T (mdE m) (adv s) 0 (adv (adv s))) := fun W hW => hW (s.next + 2)
    generalize wantsE T (mdE m) (adv s) 0 (adv (adv s)) = s9 at *
    go_enter Tryz.func180, Tryz.ntmps180
    go_wp2_with (first
      | (go_at_call 124; refine hO.mono ?_; rintro e w1 ⟨rfl, hP1, hk1⟩; have hfa := hP1.fault; rw [show (adv (adv s)).code = 0 from hc] at hfa)
      | (go_at_call 194; refine (hW _ (hP1.at (s.next + 1))).mono ?_; rintro e w2 ⟨k2, rfl, hQ1, hkQ1, _⟩; have hQ2 := hQ _ hQ1; clear hQ1)
      | (go_at_call 176; refine (unit_any hQ2 _).mono ?_; rintro e wu ⟨rfl, hu⟩; obtain rfl := hu.symm; clear hu))
    go_ret
    unfold WSt
    rw [HE.out]
    exact ⟨_, rfl, HA.out, hQ2, hk1.trans hkQ1⟩

end

end Go.Proofs.YtklobognaldjpaaGreat
