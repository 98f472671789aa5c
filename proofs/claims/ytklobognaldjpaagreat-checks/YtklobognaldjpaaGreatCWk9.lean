/- The reference's walk through a factor, and through an expression. -/
import Derived.Test.YtklobognaldjpaaGreatCWk8
namespace Go.Proofs.YtklobognaldjpaaGreat
open Go.RowKit

/-- The signs and keywords. -/
def fixedTexts : List (List UInt8) := [[61], [35], [60], [62], [42], [47], [37], [43], [45], [97, 110, 100], [111, 114], [44], [41], [40], [91], [93], [110, 111, 116], [58, 61], [105, 102], [119, 104, 105, 108, 101], [98, 101, 103, 105, 110], [119, 114, 105, 116, 101], [114, 101, 97, 100], [116, 104, 101, 110], [101, 108, 115, 101], [100, 111], [101, 110, 100], [59], [118, 97, 114], [112, 114, 111, 99], [102, 117, 110, 99], [46]]

/-- Who has such a text is a sign or a keyword. -/
def FxA (T : List Tok) : Prop := ∀ l ∈ fixedTexts, Fx T (bs l)

theorem sees_one {T : List Tok} {a b : List UInt8} {s : PS} (h : sees T (bs a) s = true) (hne : (a == b) = false) : sees T (bs b) s = false := by
  unfold sees at *
  rw [bsl] at *
  have := (Lib.bytes_beq_iff _ _).1 (by rw [bsl]; exact h : ((cur T s).text.toList == (bs a).toList) = true)
  rw [this, bsl]
  exact hne

theorem atR_self {T : List Tok} {s r : PS} (hg : Good T r) (h : s.next ≤ r.next) : AtR T s r r.next :=
  ⟨fun _ => rfl, fun _ => ⟨by omega, by have : r.next < T.length := hg; omega⟩⟩

theorem atR_dead {T : List Tok} {s : PS} {j : Int} (hc : s.code ≠ 0) : AtR T s s j := ⟨fun h => absurd h hc, fun h => absurd h hc⟩

theorem at_wantsE {T : List Tok} {m : Option Env} {s0 s : PS} {k : Nat} {i : Int} (h : At s i) : At (wantsE T m s0 k s) i := by
  unfold wantsE
  split
  · exact h
  · split
    · exact h
    · intro h0; simp [stop] at h0

section
variable {wb tb cap : Nat} {T : List Tok} {m : Option Nm} {n : Nm} {w : World} {s : PS} {d : Int} {pf : PS → Ex × PS}

theorem RW.adv (h : RW wb tb cap T m w s) : RW wb tb cap T m w (adv s) := h.at _

/-- What going through a factor from s to r does. -/
def RFac (wb tb cap : Nat) (T : List Tok) (m : Option Nm) (s r : PS) (w : World) (e : Ending) (w' : World) : Prop :=
  ∃ v j : Int, e = .returned (.tuple #[.int .i64 v, .int .i64 j]) ∧ AtR T s r j ∧ RW wb tb cap T m w' r ∧ Par wb w w'

set_option maxRecDepth 1000000 in
set_option maxHeartbeats 1000000 in
theorem named2_any (hT : Toks T) (hF : ROK wb tb cap T m 177 (d + 1) pf) (hM : Mon T pf) (hS : SM T pf) (hfx : FxA T)
    (hd0 : 0 ≤ d) (hd1 : d ≤ 14) (h : RW wb tb cap T m w s) (hg : Good T s) (hc : s.code = 0) (hk : kindIs T .name s = true) (live : Bool) :
    Calls Tryz.prog 228 #[.pointer (some ⟨wb, 0, none⟩), .int .i64 s.next, .int .i64 d, .bool live] w (RFac wb tb cap T m s (namedFactorN T (mdE m) pf s).2 w) := by
  have f40 := hfx [40] (by decide)
  have f91 := hfx [91] (by decide)
  have f93 := hfx [93] (by decide)
  have hsz := h.size
  have hg' : s.next < T.length := hg
  have hmo := h.mode_
  have hga := good_adv_kind hT hg hk (by decide)
  have hga' : s.next + 1 < T.length := hga
  have hsa : Stk T (adv s) := stk_adv hc
  have hia : At (adv s) ((s.next : Int) + 1) := fun _ => by show _ = ((s.next + 1 : Nat) : Int); omega
  have h40 := is_any hT h.adv hga hsa ((s.next : Int) + 1) hia (bs [40]) f40
  have h91 := is_any hT h.adv hga hsa ((s.next : Int) + 1) hia (bs [91]) f91
  have hL := fun W s' (hP : RW wb tb cap T m W s') => lives_any hP live
  have hmon := mon_namedFactorN hT (mdE m) hM hg hk
  cases h1 : sees T (bs [40]) (adv s) with
  | true =>
    have h2 : sees T (bs [91]) (adv s) = false := sees_one h1 (by decide)
    rw [h1] at h40
    rw [h2] at h91
    have hgaa := good_adv hT hga h1 (bs_ne _ (by simp))
    have HE : Hid ((namedFactorN T (mdE m) pf s).2 = (argsOf T pf (callE T (mdE m) s 3 (adv (adv s)))).2) := by show _ = _; unfold namedFactorN; rw [if_pos h1]
    have hC := call_any hT hF hM hS (hfx [44] (by decide)) (hfx [41] (by decide)) h hc hgaa 3 (.inr rfl) live
    rw [HE.out] at hmon
    generalize (argsOf T pf (callE T (mdE m) s 3 (adv (adv s)))).2 = s9 at *
    have HA : Hid (AtR T s s9 s9.next) := atR_self hmon.1 hmon.2
    clear h1 h2 hmon hL
    go_enter Tryz.func228, Tryz.ntmps228
    go_wp2_with (first
      | (go_at_call 94; have _q := mk1; refine h40.mono ?_; rintro e w1 ⟨rfl, h1⟩; obtain rfl := h1.symm; clear h1)
      | (go_at_call 94; refine h91.mono ?_; rintro e w1 ⟨rfl, h1⟩; obtain rfl := h1.symm; clear h1; have mk1 : Hid True := trivial)
      | (go_at_call 197; refine hC.mono ?_; rintro e w2 ⟨rfl, hP2, hk2⟩))
    go_ret2
    unfold RFac
    rw [HE.out]
    exact ⟨_, _, rfl, HA.out, hP2, hk2⟩
  | false =>
    rw [h1] at h40
    cases h2 : sees T (bs [91]) (adv s) with
    | true =>
      rw [h2] at h91
      have hgaa := good_adv hT hga h2 (bs_ne _ (by simp))
      have hsaa : Stk T (adv (adv s)) := fun h => absurd hc h
      have HE : Hid ((namedFactorN T (mdE m) pf s).2 = want T (bs [93]) (pf (wantsE T (mdE m) s 1 (adv (adv s)))).2) := by show _ = _; unfold namedFactorN; rw [if_neg (by rw [h1]; simp), if_pos h2]; rfl
      have hg1 := (mon_wantsE hT (mdE m) s 1 hgaa).1
      have hs1 := stk_wantsE (mdE m) s 1 hsaa
      have hi1 : At (wantsE T (mdE m) s 1 (adv (adv s))) ((s.next : Int) + 2) := at_wantsE (fun _ => by show _ = ((s.next + 1 + 1 : Nat) : Int); omega)
      have hW := wants_any h hg hc 1
      have hQ : ∀ W, (∀ nx, RW wb tb cap T m W (wantsE T (mdE m) s 1 { s with next := nx })) → RW wb tb cap T m W (wantsE T (mdE m) s 1 (adv (adv s))) := fun W hW => hW (s.next + 2)
      generalize wantsE T (mdE m) s 1 (adv (adv s)) = s1 at *
      have hma := hM _ hg1
      have hsma := hS _ hs1
      have hX := fun W (hP : RW wb tb cap T m W s1) => hF W s1 _ live hP hg1 hs1 hi1
      have hN := fun W j (hj : At (pf s1).2 j) (hP : RW wb tb cap T m W (pf s1).2) => need_any hT hP hma.1 hsma.1 j hj (bs [93]) f93
      rw [HE.out] at hmon
      generalize want T (bs [93]) (pf s1).2 = s9 at *
      have HA : Hid (AtR T s s9 s9.next) := atR_self hmon.1 hmon.2
      clear h1 h2 hmon
      go_enter Tryz.func228, Tryz.ntmps228
      go_wp2_with (first
        | (go_at_call 94; have _q := mk1; refine h40.mono ?_; rintro e w1 ⟨rfl, h1⟩; obtain rfl := h1.symm; clear h1)
        | (go_at_call 94; refine h91.mono ?_; rintro e w1 ⟨rfl, h1⟩; obtain rfl := h1.symm; clear h1; have mk1 : Hid True := trivial)
        | (go_at_call 194; refine hW.mono ?_; rintro e w1 ⟨k1, rfl, hQ1, hkQ1, _⟩; have hQ2 := hQ _ hQ1; clear hQ1)
        | (go_at_call 177; refine (hX _ hQ2).mono ?_; rintro e w2 ⟨v2, j2, rfl, ha2, hP2, hk2⟩)
        | (go_at_call 123; refine (hN _ _ ha2.1 hP2).mono ?_; rintro e w3 ⟨rfl, hP3, hk3⟩)
        | (go_at_call 178; refine (hL _ _ hP3).mono ?_; rintro e w4 ⟨rfl, h4⟩; obtain rfl := h4.symm; clear h4))
      go_ret2
      unfold RFac
      rw [HE.out]
      exact ⟨_, _, rfl, HA.out, hP3, (hkQ1.trans hk2).trans hk3⟩
    | false =>
      rw [h2] at h91
      have HE : Hid ((namedFactorN T (mdE m) pf s).2 = wantsE T (mdE m) s 0 (adv s)) := by show _ = _; unfold namedFactorN; rw [if_neg (by rw [h1]; simp), if_neg (by rw [h2]; simp)]
      have HA : Hid (AtR T s (wantsE T (mdE m) s 0 (adv s)) ((s.next : Int) + 1)) := ⟨at_wantsE hia, fun _ => ⟨by omega, by omega⟩⟩
      have hW := wants_any h hg hc 0
      have HQ : Hid (∀ W, (∀ nx, RW wb tb cap T m W (wantsE T (mdE m) s 0 { s with next := nx })) → RW wb tb cap T m W (wantsE T (mdE m) s 0 (adv s))) := fun W hW => hW (s.next + 1)
      clear h1 h2 hmon
      cases m with
      | none =>
        simp only [mdI] at hmo
        clear hW
        go_enter Tryz.func228, Tryz.ntmps228
        go_wp2_with (first
          | (go_at_call 94; have _q := mk1; refine h40.mono ?_; rintro e w1 ⟨rfl, h1⟩; obtain rfl := h1.symm; clear h1)
          | (go_at_call 94; refine h91.mono ?_; rintro e w1 ⟨rfl, h1⟩; obtain rfl := h1.symm; clear h1; have mk1 : Hid True := trivial)
          | (go_at_call 178; refine (hL _ _ h).mono ?_; rintro e w4 ⟨rfl, h4⟩; obtain rfl := h4.symm; clear h4))
        go_ret2
        unfold RFac
        rw [HE.out]
        exact ⟨_, _, rfl, HA.out, h.at (s.next + 1), Par.refl _ _⟩
      | some n =>
        simp only [mdI] at hmo
        go_enter Tryz.func228, Tryz.ntmps228
        go_wp2_with (first
          | (go_at_call 94; have _q := mk1; refine h40.mono ?_; rintro e w1 ⟨rfl, h1⟩; obtain rfl := h1.symm; clear h1)
          | (go_at_call 94; refine h91.mono ?_; rintro e w1 ⟨rfl, h1⟩; obtain rfl := h1.symm; clear h1; have mk1 : Hid True := trivial)
          | (go_at_call 194; refine hW.mono ?_; rintro e w1 ⟨k1, rfl, hQ1, hkQ1, _⟩; have hQ2 := HQ.out _ hQ1; clear hQ1)
          | (go_at_call 178; refine (hL _ _ hQ2).mono ?_; rintro e w4 ⟨rfl, h4⟩; obtain rfl := h4.symm; clear h4))
        go_ret2
        unfold RFac
        rw [HE.out]
        exact ⟨_, _, rfl, HA.out, hQ2, hkQ1⟩

set_option maxRecDepth 100000 in
set_option maxHeartbeats 1000000 in
theorem factor_dead (h : RW wb tb cap T m w s) (hg : Good T s) (hc : s.code ≠ 0) (i : Int) (live : Bool) :
    Calls Tryz.prog 225 #[.pointer (some ⟨wb, 0, none⟩), .int .i64 i, .int .i64 d, .bool live] w (RFac wb tb cap T m s s w) := by
  have hfa := h.fault
  have hz' : ((s.code : Int) != 0) = true := by simp; omega
  have hE := refEnd_any h hg
  have HA : Hid (∀ j, AtR T s s j) := fun j => atR_dead hc
  clear hc
  go_enter Tryz.func225, Tryz.ntmps225
  go_wp2_with (go_at_call 126; refine hE.mono ?_; rintro e w1 ⟨rfl, h1⟩; obtain rfl := h1.symm; clear h1)
  go_ret2
  exact ⟨_, _, rfl, HA.out _, h, Par.refl _ _⟩

set_option maxRecDepth 100000 in
set_option maxHeartbeats 1000000 in
theorem refFactor_deep (hT : Toks T) (h : RW wb tb cap T m w s) (hg : Good T s) (hc : s.code = 0) (hd : d = 15) (live : Bool) :
    Calls Tryz.prog 225 #[.pointer (some ⟨wb, 0, none⟩), .int .i64 s.next, .int .i64 d, .bool live] w (RFac wb tb cap T m s (fails T 5 s) w) := by
  have hfa := h.fault
  rw [hc] at hfa
  have hW := wrong_any h hg 5 s.next (fun _ => rfl)
  have HA : Hid (AtR T s (fails T 5 s) (fails T 5 s).next) := atR_self (good_fails hT 5 s) (le_fails 5 hg)
  subst hd
  go_enter Tryz.func225, Tryz.ntmps225
  go_wp2_with (go_at_call 98; refine hW.mono ?_; rintro e w1 ⟨rfl, hP1, hk1⟩)
  go_ret2
  exact ⟨_, _, rfl, HA.out, hP1, hk1⟩

theorem r_one (k : TK) : (k.r == 1) = decide (k = .name) := by cases k <;> rfl
theorem r_two (k : TK) : (k.r == 2) = decide (k = .number) := by cases k <;> rfl

set_option maxRecDepth 1000000 in
set_option maxHeartbeats 1000000 in
theorem factor_live (hT : Toks T) (k : Nat) (hF : ROK wb tb cap T m 225 (d + 1) (factorN T (mdE m) k)) (hX : ROK wb tb cap T m 177 (d + 1) (exprN T (mdE m) k)) (hfx : FxA T)
    (hd0 : 0 ≤ d) (hd1 : d ≤ 14) (h : RW wb tb cap T m w s) (hg : Good T s) (hc : s.code = 0) (live : Bool) :
    Calls Tryz.prog 225 #[.pointer (some ⟨wb, 0, none⟩), .int .i64 s.next, .int .i64 d, .bool live] w (RFac wb tb cap T m s (factorN T (mdE m) (k + 1) s).2 w) := by
  have hfa := h.fault
  rw [hc] at hfa
  have hsz := h.size
  have ht := h.toks
  have hg' : s.next < T.length := hg
  have hgi : (s.next : Int) < T.length := by omega
  have hs : Stk T s := fun h => absurd hc h
  obtain ⟨c0, c1, _, _⟩ := h.curCells hg
  have hMX := mon_exprN hT (mdE m) k
  have hSX := sm_exprN hT (mdE m) k
  have hMF := mon_factorN hT (mdE m) k
  have hmon := mon_factorN hT (mdE m) (k + 1) s hg
  have k1 := r_one (cur T s).kind
  have k2 := r_two (cur T s).kind
  cases hn : kindIs T .number s with
  | true =>
    have HE : Hid ((factorN T (mdE m) (k + 1) s).2 = adv s) := by show _ = _; rw [factorN, if_pos hn]; simp [numP, hn]
    have hga := good_adv_kind hT hg hn (by decide)
    have e2 : (cur T s).kind = .number := by simpa [kindIs] using hn
    rw [e2] at c0
    simp only [TK.r] at c0
    have HA : Hid (AtR T s (adv s) ((s.next : Int) + 1)) := ⟨fun _ => by show _ = ((s.next + 1 : Nat) : Int); omega, fun _ => ⟨by omega, by omega⟩⟩
    clear hn e2 k1 k2 hmon
    go_enter Tryz.func225, Tryz.ntmps225
    go_wp2
    go_ret2
    unfold RFac
    rw [HE.out]
    exact ⟨_, _, rfl, HA.out, h.at _, Par.refl _ _⟩
  | false =>
    have h2' : ((cur T s).kind.r == 2) = false := by rw [k2]; simpa [kindIs] using hn
    clear k2
    cases hm : kindIs T .name s with
    | true =>
      have HE : Hid ((factorN T (mdE m) (k + 1) s).2 = (namedFactorN T (mdE m) (exprN T (mdE m) k) s).2) := by show _ = _; rw [factorN, if_neg (by rw [hn]; simp), if_pos hm]; rfl
      have hC := named2_any hT hX hMX hSX hfx hd0 hd1 h hg hc hm live
      have e2 : (cur T s).kind = .name := by simpa [kindIs] using hm
      rw [e2] at c0
      simp only [TK.r] at c0
      clear hn hm e2 k1 hmon h2'
      go_enter Tryz.func225, Tryz.ntmps225
      go_wp2_with (go_at_call 228; refine hC.mono ?_; rintro e w1 ⟨v1, j1, rfl, ha1, hP1, hk1⟩)
      go_ret2
      unfold RFac
      rw [HE.out]
      exact ⟨_, _, rfl, ha1, hP1, hk1⟩
    | false =>
      have h1' : ((cur T s).kind.r == 1) = false := by rw [k1]; simpa [kindIs] using hm
      clear k1
      generalize (cur T s).kind.r = kr at *
      have h40 := is_any hT h hg hs s.next (fun _ => rfl) (bs [40]) (hfx [40] (by decide))
      have h45 := is_any hT h hg hs s.next (fun _ => rfl) (bs [45]) (hfx [45] (by decide))
      have hno := is_any hT h hg hs s.next (fun _ => rfl) (bs [110, 111, 116]) (hfx [110, 111, 116] (by decide))
      have hia : At (adv s) ((s.next : Int) + 1) := fun _ => by show _ = ((s.next + 1 : Nat) : Int); omega
      have hsa : Stk T (adv s) := stk_adv hc
      cases s1 : sees T (bs [40]) s with
      | true =>
        rw [s1] at h40
        rw [sees_one (b := [45]) s1 (by decide)] at h45
        rw [sees_one (b := [110, 111, 116]) s1 (by decide)] at hno
        have HE : Hid ((factorN T (mdE m) (k + 1) s).2 = want T (bs [41]) (exprN T (mdE m) k (adv s)).2) := by show _ = _; rw [factorN, if_neg (by rw [hn]; simp), if_neg (by rw [hm]; simp), if_pos s1]; rfl
        have hga := good_adv hT hg s1 (bs_ne _ (by simp))
        have hma := hMX _ hga
        have hsma := hSX _ hsa
        have hA := hX w (adv s) _ live (h.at _) hga hsa hia
        have hN := fun W j (hj : At (exprN T (mdE m) k (adv s)).2 j) (hP : RW wb tb cap T m W (exprN T (mdE m) k (adv s)).2) => need_any hT hP hma.1 hsma.1 j hj (bs [41]) (hfx [41] (by decide))
        rw [HE.out] at hmon
        generalize want T (bs [41]) (exprN T (mdE m) k (adv s)).2 = s9 at *
        have HA : Hid (AtR T s s9 s9.next) := atR_self hmon.1 hmon.2
        clear hn hm s1 hmon
        go_enter Tryz.func225, Tryz.ntmps225
        go_wp2_with (first
          | (go_at_call 94; have _q := mk2; refine hno.mono ?_; rintro e w1 ⟨rfl, h1⟩; obtain rfl := h1.symm; clear h1)
          | (go_at_call 94; have _q := mk1; refine h45.mono ?_; rintro e w1 ⟨rfl, h1⟩; obtain rfl := h1.symm; clear h1; have mk2 : Hid True := trivial)
          | (go_at_call 94; refine h40.mono ?_; rintro e w1 ⟨rfl, h1⟩; obtain rfl := h1.symm; clear h1; have mk1 : Hid True := trivial)
          | (go_at_call 177; refine hA.mono ?_; rintro e w2 ⟨v2, j2, rfl, ha2, hP2, hk2⟩)
          | (go_at_call 123; refine (hN _ _ ha2.1 hP2).mono ?_; rintro e w3 ⟨rfl, hP3, hk3⟩))
        go_ret2
        unfold RFac
        rw [HE.out]
        exact ⟨_, _, rfl, HA.out, hP3, hk2.trans hk3⟩
      | false =>
        rw [s1] at h40
        cases s2 : sees T (bs [45]) s with
        | true =>
          rw [s2] at h45
          rw [sees_one (b := [110, 111, 116]) s2 (by decide)] at hno
          have HE : Hid ((factorN T (mdE m) (k + 1) s).2 = (factorN T (mdE m) k (adv s)).2) := by show _ = _; rw [factorN, if_neg (by rw [hn]; simp), if_neg (by rw [hm]; simp), if_neg (by rw [s1]; simp), if_pos s2]
          have hga := good_adv hT hg s2 (bs_ne _ (by simp))
          have hA := hF w (adv s) _ live (h.at _) hga hsa hia
          clear hn hm s1 s2 hmon
          go_enter Tryz.func225, Tryz.ntmps225
          go_wp2_with (first
            | (go_at_call 94; have _q := mk2; refine hno.mono ?_; rintro e w1 ⟨rfl, h1⟩; obtain rfl := h1.symm; clear h1)
            | (go_at_call 94; have _q := mk1; refine h45.mono ?_; rintro e w1 ⟨rfl, h1⟩; obtain rfl := h1.symm; clear h1; have mk2 : Hid True := trivial)
            | (go_at_call 94; refine h40.mono ?_; rintro e w1 ⟨rfl, h1⟩; obtain rfl := h1.symm; clear h1; have mk1 : Hid True := trivial)
            | (go_at_call 225; refine hA.mono ?_; rintro e w2 ⟨v2, j2, rfl, ha2, hP2, hk2⟩)
            | (go_at_call 222; refine (refWrap_any _ _).mono ?_; rintro e w5 ⟨v5, rfl, h5⟩; obtain rfl := h5.symm; clear h5))
          go_ret2
          unfold RFac
          rw [HE.out]
          exact ⟨_, _, rfl, ⟨ha2.1, fun _ => by have := ha2.2 hc; have e : (adv s).next = s.next + 1 := rfl; omega⟩, hP2, hk2⟩
        | false =>
          rw [s2] at h45
          cases s3 : sees T (bs [110, 111, 116]) s with
          | true =>
            rw [s3] at hno
            have HE : Hid ((factorN T (mdE m) (k + 1) s).2 = (factorN T (mdE m) k (adv s)).2) := by show _ = _; rw [factorN, if_neg (by rw [hn]; simp), if_neg (by rw [hm]; simp), if_neg (by rw [s1]; simp), if_neg (by rw [s2]; simp), if_pos s3]
            have hga := good_adv hT hg s3 (bs_ne _ (by simp))
            have hA := hF w (adv s) _ live (h.at _) hga hsa hia
            clear hn hm s1 s2 s3 hmon
            go_enter Tryz.func225, Tryz.ntmps225
            go_wp2_with (first
              | (go_at_call 94; have _q := mk2; refine hno.mono ?_; rintro e w1 ⟨rfl, h1⟩; obtain rfl := h1.symm; clear h1)
              | (go_at_call 94; have _q := mk1; refine h45.mono ?_; rintro e w1 ⟨rfl, h1⟩; obtain rfl := h1.symm; clear h1; have mk2 : Hid True := trivial)
              | (go_at_call 94; refine h40.mono ?_; rintro e w1 ⟨rfl, h1⟩; obtain rfl := h1.symm; clear h1; have mk1 : Hid True := trivial)
              | (go_at_call 225; refine hA.mono ?_; rintro e w2 ⟨v2, j2, rfl, ha2, hP2, hk2⟩)
              | (go_at_call 76; refine (truth_any _ _).mono ?_; rintro e w5 ⟨v5, rfl, h5⟩; obtain rfl := h5.symm; clear h5))
            go_ret2
            unfold RFac
            rw [HE.out]
            exact ⟨_, _, rfl, ⟨ha2.1, fun _ => by have := ha2.2 hc; have e : (adv s).next = s.next + 1 := rfl; omega⟩, hP2, hk2⟩
          | false =>
            rw [s3] at hno
            have HE : Hid ((factorN T (mdE m) (k + 1) s).2 = fails T 4 s) := by show _ = _; rw [factorN, if_neg (by rw [hn]; simp), if_neg (by rw [hm]; simp), if_neg (by rw [s1]; simp), if_neg (by rw [s2]; simp), if_neg (by rw [s3]; simp)]
            have hW := wrong_any h hg 4 s.next (fun _ => rfl)
            have HA : Hid (AtR T s (fails T 4 s) (fails T 4 s).next) := atR_self (good_fails hT 4 s) (le_fails 4 hg)
            clear hn hm s1 s2 s3 hmon
            go_enter Tryz.func225, Tryz.ntmps225
            go_wp2_with (first
              | (go_at_call 94; have _q := mk2; refine hno.mono ?_; rintro e w1 ⟨rfl, h1⟩; obtain rfl := h1.symm; clear h1)
              | (go_at_call 94; have _q := mk1; refine h45.mono ?_; rintro e w1 ⟨rfl, h1⟩; obtain rfl := h1.symm; clear h1; have mk2 : Hid True := trivial)
              | (go_at_call 94; refine h40.mono ?_; rintro e w1 ⟨rfl, h1⟩; obtain rfl := h1.symm; clear h1; have mk1 : Hid True := trivial)
              | (go_at_call 98; refine hW.mono ?_; rintro e w2 ⟨rfl, hP2, hk2⟩))
            go_ret2
            unfold RFac
            rw [HE.out]
            exact ⟨_, _, rfl, HA.out, hP2, hk2⟩

theorem fx_ops (hfx : FxA T) : (∀ f ∈ mulOps, Fx T f) ∧ (∀ f ∈ addOps, Fx T f) ∧ (∀ f ∈ testOps, Fx T f) := by
  refine ⟨fun f hf => ?_, fun f hf => ?_, fun f hf => ?_⟩
  · simp [mulOps] at hf
    rcases hf with rfl | rfl | rfl <;> exact hfx _ (by decide)
  · simp [addOps] at hf
    rcases hf with rfl | rfl <;> exact hfx _ (by decide)
  · simp [testOps] at hf
    rcases hf with rfl | rfl | rfl | rfl <;> exact hfx _ (by decide)

/-- An expression, level by level. -/
theorem expr_of (hT : Toks T) (hfx : FxA T) (hF : ROK wb tb cap T m 225 d pf) (hM : Mon T pf) (hS : SM T pf) : ROK wb tb cap T m 177 d (exprOf T pf) := by
  obtain ⟨f1, f2, f3⟩ := fx_ops hfx
  have a1 := refTerm_ok hT hF hM hS f1
  have a2 := refSum_ok hT a1 (mon_termOf hT hM) (sm_termOf hT hS) f2
  have a3 := refTest_ok hT a2 (mon_sumOf hT hM) (sm_sumOf hT hS) f3
  have a4 := refAnd_ok hT a3 (mon_testOf hT hM) (sm_testOf hT hS) (hfx _ (by decide))
  exact refExpr_ok hT a4 (mon_andOf hT hM) (sm_andOf hT hS) (hfx _ (by decide))

/-- A factor, at every depth that may be. -/
theorem refFactor_all (hT : Toks T) (hfx : FxA T) : ∀ (k : Nat) (d : Int), d + k = 15 → 0 ≤ d → ROK wb tb cap T m 225 d (factorN T (mdE m) k)
  | 0, d, hd, h0 => fun w s i live h hg hs hi => by
    by_cases hc : s.code = 0
    · obtain rfl := hi hc
      exact refFactor_deep hT h hg hc (by omega) live
    · rw [(sm_factorN hT (mdE m) 0 s hs).2 hc]
      exact factor_dead h hg hc i live
  | k + 1, d, hd, h0 => fun w s i live h hg hs hi => by
    have ih := refFactor_all hT hfx k (d + 1) (by omega) (by omega)
    have hX := expr_of hT hfx ih (mon_factorN hT (mdE m) k) (sm_factorN hT (mdE m) k)
    by_cases hc : s.code = 0
    · obtain rfl := hi hc
      exact factor_live hT k ih hX hfx h0 (by omega) h hg hc live
    · rw [(sm_factorN hT (mdE m) (k + 1) s hs).2 hc]
      exact factor_dead h hg hc i live

theorem refExpr_all (hT : Toks T) (hfx : FxA T) (k : Nat) (d : Int) (hd : d + k = 15) (h0 : 0 ≤ d) : ROK wb tb cap T m 177 d (exprN T (mdE m) k) :=
  expr_of hT hfx (refFactor_all hT hfx k d hd h0) (mon_factorN hT (mdE m) k) (sm_factorN hT (mdE m) k)

end

end Go.Proofs.YtklobognaldjpaaGreat
