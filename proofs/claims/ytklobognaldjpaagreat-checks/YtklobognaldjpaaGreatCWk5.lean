/- The reference's walk: expressions, level by level. The reference's walk: sums. The reference's walk: terms and tests. -/
import Derived.Test.YtklobognaldjpaaGreatCWk2
import Derived.Test.YtklobognaldjpaaGreatCParse10
namespace Go.Proofs.YtklobognaldjpaaGreat
open Go.RowKit

/-- Where one is behind what was read from s on; r is how it came out. -/
def AtR (T : List Tok) (s r : PS) (j : Int) : Prop := At r j ∧ (s.code = 0 → (s.next : Int) ≤ j ∧ j ≤ T.length)

theorem AtR.step {T : List Tok} {s s' r : PS} {j : Int} (h : AtR T s s' s'.next) (hc : s'.code = 0) (h2 : AtR T (adv s') r j) : AtR T s r j :=
  ⟨h2.1, fun h0 => by
    have h3 := h.2 h0
    have h4 := h2.2 hc
    have e : (adv s').next = s'.next + 1 := rfl
    omega⟩

/-- What a function of the walk that goes through an expression does, where nothing is run. -/
def ROK (wb tb cap : Nat) (T : List Tok) (m : Option Nm) (F : Nat) (d : Int) (pf : PS → Ex × PS) : Prop :=
  ∀ w s i (live : Bool), RW wb tb cap T m w s → Good T s → Stk T s → At s i → Calls Tryz.prog F #[.pointer (some ⟨wb, 0, none⟩), .int .i64 i, .int .i64 d, .bool live] w fun e w' => ∃ v j : Int, e = .returned (.tuple #[.int .i64 v, .int .i64 j]) ∧ AtR T s (pf s).2 j ∧ RW wb tb cap T m w' (pf s).2 ∧ Par wb w w'

section
variable {wb tb cap : Nat} {T : List Tok} {m : Option Nm} {d : Int} {pf : PS → Ex × PS}

theorem seesAny_one (f : ByteArray) (s : PS) : seesAny T [f] s = sees T f s := by simp [seesAny]

set_option maxRecDepth 1000000 in
set_option maxHeartbeats 1000000 in
theorem refExpr_ok (hT : Toks T) (hF : ROK wb tb cap T m 198 d pf) (hM : Mon T pf) (hS : SM T pf) (hfx : Fx T (bs [111, 114])) : ROK wb tb cap T m 177 d (chain T pf [bs [111, 114]]) := by
  intro w s i live h hg hs hi
  have hsz := h.size
  have hm1 := hM s hg
  have hs1 := hS s hs
  have hg1' : (pf s).2.next < T.length := hm1.1
  have hF0 := hF w s i live h hg hs hi
  go_enter Tryz.func177, Tryz.ntmps177
  go_wp2_with (first
    | (go_at_call 198; refine hF0.mono ?_; rintro e w1 ⟨v1, j1, rfl, ha1, hP1, hk1⟩)
    | (go_at_call 94; refine (is_any hT hP1 hm1.1 hs1.1 j1 ha1.1 (bs [111, 114]) hfx).mono ?_; rintro e w2 ⟨rfl, h2⟩; obtain rfl := h2.symm; clear h2))
  go_loopw [10, 11, 12, 13, 14, 15] (fun v nx mo _ _ _ wr => ∃ (s' : PS) (l : Ex) (n : Nat) (vv jj : Int), v = .int .i64 vv ∧ nx = .int .i64 jj ∧ mo = .bool (sees T (bs [111, 114]) s') ∧ RW wb tb cap T m wr s' ∧ Par wb w wr ∧ Good T s' ∧ Stk T s' ∧ AtR T s s' jj ∧ T.length ≤ s'.next + n ∧ Hid (chainLoop T pf [bs [111, 114]] n l s' = chain T pf [bs [111, 114]] s)) (fun _ nx _ _ _ _ _ => T.length - (intOf nx).toNat)
  case atStart => exact ⟨(pf s).2, (pf s).1, T.length, v1, j1, rfl, rfl, rfl, hP1, hk1, hm1.1, hs1.1, ha1, by omega, rfl⟩
  case round =>
    obtain ⟨s', l, n, vv, jj, rfl, rfl, rfl, hP, hk, hg2, hs2, haj, hn2, HL⟩ := hrel
    have hg2' : s'.next < T.length := hg2
    cases hsee : sees T (bs [111, 114]) s' with
    | true =>
      have hga := good_adv hT hg2 hsee (bs_ne _ (by simp))
      have hc2 := code_of_sees hT hs2 (bs_ne _ (by simp)) hsee
      obtain rfl := haj.1 hc2
      have hsa : Stk T (adv s') := stk_adv hc2
      have hma := hM (adv s') hga
      have hsma := hS (adv s') hsa
      have hadv : (adv s').next = s'.next + 1 := rfl
      have hmg : (pf (adv s')).2.next < T.length := hma.1
      have hmn : s'.next + 1 ≤ (pf (adv s')).2.next := hma.2
      obtain ⟨nn, rfl⟩ : ∃ nn, n = nn + 1 := ⟨n - 1, by omega⟩
      have HL2 : Hid (chainLoop T pf [bs [111, 114]] nn (.bin (cur T s').text l (pf (adv s')).1) (pf (adv s')).2 = chain T pf [bs [111, 114]] s) := by show _ = _; rw [← HL.out, chainLoop_go (by rw [seesAny_one]; exact hsee)]
      have hA : ∀ lv, Calls Tryz.prog 198 #[.pointer (some ⟨wb, 0, none⟩), .int .i64 ((s'.next : Int) + 1), .int .i64 d, .bool lv] wr fun e w' => ∃ v j : Int, e = .returned (.tuple #[.int .i64 v, .int .i64 j]) ∧ AtR T (adv s') (pf (adv s')).2 j ∧ RW wb tb cap T m w' (pf (adv s')).2 ∧ Par wb wr w' := fun lv => by
        exact hF wr (adv s') _ lv (hP.at _) hga hsa (fun _ => by show _ = ((s'.next + 1 : Nat) : Int); omega)
      clear HL hsee hadv
      generalize (pf (adv s')).2 = s3 at *
      generalize (pf (adv s')).1 = e3 at *
      cases live with
      | true =>
        cases hv0 : (vv == 0) with
        | true =>
          have hv1 : (vv != 0) = false := by simpa using hv0
          go_wp2_with (first
            | (go_at_call 178; refine (lives_any hP _).mono ?_; rintro e w3 ⟨rfl, h3⟩; obtain rfl := h3.symm; clear h3)
            | (go_at_call 198; refine (hA _).mono ?_; rintro e w4 ⟨v4, j4, rfl, ha4, hP4, hk4⟩)
            | (go_at_call 94; refine (is_any hT hP4 hma.1 hsma.1 j4 ha4.1 (bs [111, 114]) hfx).mono ?_; rintro e w5 ⟨rfl, h5⟩; obtain rfl := h5.symm; clear h5))
          go_roundw
          case rel => exact ⟨s3, _, nn, vv, j4, rfl, rfl, rfl, hP4, hk.trans hk4, hma.1, hsma.1, haj.step hc2 ha4, by omega, HL2⟩
          case measure => have hq := (ha4.2 hc2).1; have e9 : (adv s').next = s'.next + 1 := rfl; simp [intOf]; omega
        | false =>
          have hv1 : (vv != 0) = true := by simpa using hv0
          go_wp2_with (first
            | (go_at_call 178; refine (lives_any hP _).mono ?_; rintro e w3 ⟨rfl, h3⟩; obtain rfl := h3.symm; clear h3)
            | (go_at_call 198; refine (hA _).mono ?_; rintro e w4 ⟨v4, j4, rfl, ha4, hP4, hk4⟩)
            | (go_at_call 94; refine (is_any hT hP4 hma.1 hsma.1 j4 ha4.1 (bs [111, 114]) hfx).mono ?_; rintro e w5 ⟨rfl, h5⟩; obtain rfl := h5.symm; clear h5))
          go_roundw
          case rel => exact ⟨s3, _, nn, vv, j4, rfl, rfl, rfl, hP4, hk.trans hk4, hma.1, hsma.1, haj.step hc2 ha4, by omega, HL2⟩
          case measure => have hq := (ha4.2 hc2).1; have e9 : (adv s').next = s'.next + 1 := rfl; simp [intOf]; omega
      | false =>
        go_wp2_with (first
          | (go_at_call 178; refine (lives_any hP _).mono ?_; rintro e w3 ⟨rfl, h3⟩; obtain rfl := h3.symm; clear h3)
          | (go_at_call 198; refine (hA _).mono ?_; rintro e w4 ⟨v4, j4, rfl, ha4, hP4, hk4⟩)
          | (go_at_call 94; refine (is_any hT hP4 hma.1 hsma.1 j4 ha4.1 (bs [111, 114]) hfx).mono ?_; rintro e w5 ⟨rfl, h5⟩; obtain rfl := h5.symm; clear h5))
        go_roundw
        case rel => exact ⟨s3, _, nn, vv, j4, rfl, rfl, rfl, hP4, hk.trans hk4, hma.1, hsma.1, haj.step hc2 ha4, by omega, HL2⟩
        case measure => have hq := (ha4.2 hc2).1; have e9 : (adv s').next = s'.next + 1 := rfl; simp [intOf]; omega
    | false =>
      have HL2 : Hid (chain T pf [bs [111, 114]] s = (l, s')) := by show _ = _; rw [← HL.out, chainLoop_stop (by rw [seesAny_one]; exact hsee)]
      clear HL hsee
      go_wp2
      go_ret2
      refine ⟨vv, jj, rfl, ?_⟩
      rw [HL2.out]; exact ⟨haj, hP, hk⟩

set_option maxRecDepth 1000000 in
set_option maxHeartbeats 1000000 in
theorem refAnd_ok (hT : Toks T) (hF : ROK wb tb cap T m 211 d pf) (hM : Mon T pf) (hS : SM T pf) (hfx : Fx T (bs [97, 110, 100])) : ROK wb tb cap T m 198 d (chain T pf [bs [97, 110, 100]]) := by
  intro w s i live h hg hs hi
  have hsz := h.size
  have hm1 := hM s hg
  have hs1 := hS s hs
  have hg1' : (pf s).2.next < T.length := hm1.1
  have hF0 := hF w s i live h hg hs hi
  go_enter Tryz.func198, Tryz.ntmps198
  go_wp2_with (first
    | (go_at_call 211; refine hF0.mono ?_; rintro e w1 ⟨v1, j1, rfl, ha1, hP1, hk1⟩)
    | (go_at_call 94; refine (is_any hT hP1 hm1.1 hs1.1 j1 ha1.1 (bs [97, 110, 100]) hfx).mono ?_; rintro e w2 ⟨rfl, h2⟩; obtain rfl := h2.symm; clear h2))
  go_loopw [10, 11, 12, 13, 14, 15] (fun v nx mo _ _ _ wr => ∃ (s' : PS) (l : Ex) (n : Nat) (vv jj : Int), v = .int .i64 vv ∧ nx = .int .i64 jj ∧ mo = .bool (sees T (bs [97, 110, 100]) s') ∧ RW wb tb cap T m wr s' ∧ Par wb w wr ∧ Good T s' ∧ Stk T s' ∧ AtR T s s' jj ∧ T.length ≤ s'.next + n ∧ Hid (chainLoop T pf [bs [97, 110, 100]] n l s' = chain T pf [bs [97, 110, 100]] s)) (fun _ nx _ _ _ _ _ => T.length - (intOf nx).toNat)
  case atStart => exact ⟨(pf s).2, (pf s).1, T.length, v1, j1, rfl, rfl, rfl, hP1, hk1, hm1.1, hs1.1, ha1, by omega, rfl⟩
  case round =>
    obtain ⟨s', l, n, vv, jj, rfl, rfl, rfl, hP, hk, hg2, hs2, haj, hn2, HL⟩ := hrel
    have hg2' : s'.next < T.length := hg2
    cases hsee : sees T (bs [97, 110, 100]) s' with
    | true =>
      have hga := good_adv hT hg2 hsee (bs_ne _ (by simp))
      have hc2 := code_of_sees hT hs2 (bs_ne _ (by simp)) hsee
      obtain rfl := haj.1 hc2
      have hsa : Stk T (adv s') := stk_adv hc2
      have hma := hM (adv s') hga
      have hsma := hS (adv s') hsa
      have hadv : (adv s').next = s'.next + 1 := rfl
      have hmg : (pf (adv s')).2.next < T.length := hma.1
      have hmn : s'.next + 1 ≤ (pf (adv s')).2.next := hma.2
      obtain ⟨nn, rfl⟩ : ∃ nn, n = nn + 1 := ⟨n - 1, by omega⟩
      have HL2 : Hid (chainLoop T pf [bs [97, 110, 100]] nn (.bin (cur T s').text l (pf (adv s')).1) (pf (adv s')).2 = chain T pf [bs [97, 110, 100]] s) := by show _ = _; rw [← HL.out, chainLoop_go (by rw [seesAny_one]; exact hsee)]
      have hA : ∀ lv, Calls Tryz.prog 211 #[.pointer (some ⟨wb, 0, none⟩), .int .i64 ((s'.next : Int) + 1), .int .i64 d, .bool lv] wr fun e w' => ∃ v j : Int, e = .returned (.tuple #[.int .i64 v, .int .i64 j]) ∧ AtR T (adv s') (pf (adv s')).2 j ∧ RW wb tb cap T m w' (pf (adv s')).2 ∧ Par wb wr w' := fun lv => by
        exact hF wr (adv s') _ lv (hP.at _) hga hsa (fun _ => by show _ = ((s'.next + 1 : Nat) : Int); omega)
      clear HL hsee hadv
      generalize (pf (adv s')).2 = s3 at *
      generalize (pf (adv s')).1 = e3 at *
      cases live with
      | true =>
        cases hv0 : (vv == 0) with
        | true =>
          have hv1 : (vv != 0) = false := by simpa using hv0
          go_wp2_with (first
            | (go_at_call 178; refine (lives_any hP _).mono ?_; rintro e w3 ⟨rfl, h3⟩; obtain rfl := h3.symm; clear h3)
            | (go_at_call 211; refine (hA _).mono ?_; rintro e w4 ⟨v4, j4, rfl, ha4, hP4, hk4⟩)
            | (go_at_call 94; refine (is_any hT hP4 hma.1 hsma.1 j4 ha4.1 (bs [97, 110, 100]) hfx).mono ?_; rintro e w5 ⟨rfl, h5⟩; obtain rfl := h5.symm; clear h5))
          go_roundw
          case rel => exact ⟨s3, _, nn, vv, j4, rfl, rfl, rfl, hP4, hk.trans hk4, hma.1, hsma.1, haj.step hc2 ha4, by omega, HL2⟩
          case measure => have hq := (ha4.2 hc2).1; have e9 : (adv s').next = s'.next + 1 := rfl; simp [intOf]; omega
        | false =>
          have hv1 : (vv != 0) = true := by simpa using hv0
          go_wp2_with (first
            | (go_at_call 178; refine (lives_any hP _).mono ?_; rintro e w3 ⟨rfl, h3⟩; obtain rfl := h3.symm; clear h3)
            | (go_at_call 211; refine (hA _).mono ?_; rintro e w4 ⟨v4, j4, rfl, ha4, hP4, hk4⟩)
            | (go_at_call 94; refine (is_any hT hP4 hma.1 hsma.1 j4 ha4.1 (bs [97, 110, 100]) hfx).mono ?_; rintro e w5 ⟨rfl, h5⟩; obtain rfl := h5.symm; clear h5))
          go_roundw
          case rel => exact ⟨s3, _, nn, vv, j4, rfl, rfl, rfl, hP4, hk.trans hk4, hma.1, hsma.1, haj.step hc2 ha4, by omega, HL2⟩
          case measure => have hq := (ha4.2 hc2).1; have e9 : (adv s').next = s'.next + 1 := rfl; simp [intOf]; omega
      | false =>
        go_wp2_with (first
          | (go_at_call 178; refine (lives_any hP _).mono ?_; rintro e w3 ⟨rfl, h3⟩; obtain rfl := h3.symm; clear h3)
          | (go_at_call 211; refine (hA _).mono ?_; rintro e w4 ⟨v4, j4, rfl, ha4, hP4, hk4⟩)
          | (go_at_call 94; refine (is_any hT hP4 hma.1 hsma.1 j4 ha4.1 (bs [97, 110, 100]) hfx).mono ?_; rintro e w5 ⟨rfl, h5⟩; obtain rfl := h5.symm; clear h5))
        go_roundw
        case rel => exact ⟨s3, _, nn, vv, j4, rfl, rfl, rfl, hP4, hk.trans hk4, hma.1, hsma.1, haj.step hc2 ha4, by omega, HL2⟩
        case measure => have hq := (ha4.2 hc2).1; have e9 : (adv s').next = s'.next + 1 := rfl; simp [intOf]; omega
    | false =>
      have HL2 : Hid (chain T pf [bs [97, 110, 100]] s = (l, s')) := by show _ = _; rw [← HL.out, chainLoop_stop (by rw [seesAny_one]; exact hsee)]
      clear HL hsee
      go_wp2
      go_ret2
      refine ⟨vv, jj, rfl, ?_⟩
      rw [HL2.out]; exact ⟨haj, hP, hk⟩

end

end Go.Proofs.YtklobognaldjpaaGreat

namespace Go.Proofs.YtklobognaldjpaaGreat
open Go.RowKit

section
variable {wb tb cap : Nat} {T : List Tok} {m : Option Nm} {d : Int} {pf : PS → Ex × PS}

theorem opAt_no {fs : List ByteArray} {s : PS} (h : seesAny T fs s = false) : opAt T fs s = ⟨#[]⟩ := by
  unfold opAt
  rw [List.find?_eq_none.2 (fun f hf => by
    unfold seesAny at h
    rw [List.any_eq_false] at h
    exact h f hf)]
  rfl

theorem opAt_yes {fs : List ByteArray} {s : PS} (h : seesAny T fs s = true) : opAt T fs s ∈ fs := by
  unfold opAt
  unfold seesAny at h
  rw [List.any_eq_true] at h
  cases hf : fs.find? (fun f => sees T f s) with
  | none =>
    rw [List.find?_eq_none] at hf
    obtain ⟨f, h1, h2⟩ := h
    exact absurd h2 (hf f h1)
  | some f => exact List.mem_of_find?_eq_some hf

set_option maxRecDepth 1000000 in
set_option maxHeartbeats 1000000 in
theorem refSum_ok (hT : Toks T) (hF : ROK wb tb cap T m 221 d pf) (hM : Mon T pf) (hS : SM T pf) (hfx : ∀ f ∈ addOps, Fx T f) : ROK wb tb cap T m 216 d (chain T pf addOps) := by
  intro w s i live h hg hs hi
  have hsz := h.size
  have hm1 := hM s hg
  have hs1 := hS s hs
  have hg1' : (pf s).2.next < T.length := hm1.1
  have hF0 := hF w s i live h hg hs hi
  have hOp := fun (W : World) (s2 : PS) (i2 : Int) (hP : RW wb tb cap T m W s2) (hg2 : Good T s2) (hs2 : Stk T s2) (hi2 : At s2 i2) => operator_any hT (hP.alloc _) hg2 hs2 i2 hi2 W.heap.size 2 addOps (by decide) (strs_new2 W [43] [45] 9) hfx
  go_enter Tryz.func216, Tryz.ntmps216
  go_wp2_with (first
    | (go_at_call 221; refine hF0.mono ?_; rintro e w1 ⟨v1, j1, rfl, ha1, hP1, hk1⟩)
    | (go_at_call 217; refine (hOp _ _ j1 hP1 hm1.1 hs1.1 ha1.1).mono ?_; rintro e w2 ⟨rfl, h2⟩; obtain rfl := h2.symm; clear h2))
  go_loopw [10, 11, 12, 13, 14] (fun v nx op _ _ wr => ∃ (s' : PS) (l : Ex) (n : Nat) (vv jj : Int) (o : ByteArray), v = .int .i64 vv ∧ nx = .int .i64 jj ∧ op = .string o ∧ Hid (o = opAt T addOps s') ∧ RW wb tb cap T m wr s' ∧ Par wb w wr ∧ Good T s' ∧ Stk T s' ∧ AtR T s s' jj ∧ T.length ≤ s'.next + n ∧ Hid (chainLoop T pf addOps n l s' = chain T pf addOps s)) (fun _ nx _ _ _ _ => T.length - (intOf nx).toNat)
  case atStart => exact ⟨(pf s).2, (pf s).1, T.length, v1, j1, _, rfl, rfl, rfl, rfl, hP1.alloc _, hk1.alloc _, hm1.1, hs1.1, ha1, by omega, rfl⟩
  case round =>
    obtain ⟨s', l, n, vv, jj, o, rfl, rfl, rfl, HO, hP, hk, hg2, hs2, haj, hn2, HL⟩ := hrel
    have hg2' : s'.next < T.length := hg2
    cases hsee : seesAny T addOps s' with
    | true =>
      have hga := seesAny_good hT hg2 ops_ne.2.1 hsee
      have hc2 := code_of_any hT hs2 ops_ne.2.1 hsee
      obtain rfl := haj.1 hc2
      have hsa : Stk T (adv s') := stk_adv hc2
      have hma := hM (adv s') hga
      have hsma := hS (adv s') hsa
      have hmg : (pf (adv s')).2.next < T.length := hma.1
      have hmn : s'.next + 1 ≤ (pf (adv s')).2.next := hma.2
      obtain ⟨nn, rfl⟩ : ∃ nn, n = nn + 1 := ⟨n - 1, by omega⟩
      have HL2 : Hid (chainLoop T pf addOps nn (.bin (cur T s').text l (pf (adv s')).1) (pf (adv s')).2 = chain T pf addOps s) := by show _ = _; rw [← HL.out, chainLoop_go hsee]
      have hA : Calls Tryz.prog 221 #[.pointer (some ⟨wb, 0, none⟩), .int .i64 ((s'.next : Int) + 1), .int .i64 d, .bool live] wr fun e w' => ∃ v j : Int, e = .returned (.tuple #[.int .i64 v, .int .i64 j]) ∧ AtR T (adv s') (pf (adv s')).2 j ∧ RW wb tb cap T m w' (pf (adv s')).2 ∧ Par wb wr w' := by
        exact hF wr (adv s') _ live (hP.at _) hga hsa (fun _ => by show _ = ((s'.next + 1 : Nat) : Int); omega)
      have hoo : o = bs [43] ∨ o = bs [45] := by
        have := opAt_yes hsee
        rw [← HO.out] at this
        simpa [addOps] using this
      clear HL hsee HO
      generalize (pf (adv s')).2 = s3 at *
      generalize (pf (adv s')).1 = e3 at *
      rcases hoo with rfl | rfl
      · simp only [bs]
        go_wp2_with (first
          | (go_at_call 221; refine hA.mono ?_; rintro e w4 ⟨v4, j4, rfl, ha4, hP4, hk4⟩)
          | (go_at_call 222; refine (refWrap_any _ _).mono ?_; rintro e w5 ⟨v5, rfl, h5⟩; obtain rfl := h5.symm; clear h5)
          | (go_at_call 217; refine (hOp _ _ j4 hP4 hma.1 hsma.1 ha4.1).mono ?_; rintro e w6 ⟨rfl, h6⟩; obtain rfl := h6.symm; clear h6))
        go_roundw
        case rel => exact ⟨s3, _, nn, v5, j4, _, rfl, rfl, rfl, rfl, hP4.alloc _, (hk.trans hk4).alloc _, hma.1, hsma.1, haj.step hc2 ha4, by omega, HL2⟩
        case measure => have hq := (ha4.2 hc2).1; have e9 : (adv s').next = s'.next + 1 := rfl; simp [intOf]; omega
      · simp only [bs]
        go_wp2_with (first
          | (go_at_call 221; refine hA.mono ?_; rintro e w4 ⟨v4, j4, rfl, ha4, hP4, hk4⟩)
          | (go_at_call 222; refine (refWrap_any _ _).mono ?_; rintro e w5 ⟨v5, rfl, h5⟩; obtain rfl := h5.symm; clear h5)
          | (go_at_call 217; refine (hOp _ _ j4 hP4 hma.1 hsma.1 ha4.1).mono ?_; rintro e w6 ⟨rfl, h6⟩; obtain rfl := h6.symm; clear h6))
        go_roundw
        case rel => exact ⟨s3, _, nn, v5, j4, _, rfl, rfl, rfl, rfl, hP4.alloc _, (hk.trans hk4).alloc _, hma.1, hsma.1, haj.step hc2 ha4, by omega, HL2⟩
        case measure => have hq := (ha4.2 hc2).1; have e9 : (adv s').next = s'.next + 1 := rfl; simp [intOf]; omega
    | false =>
      have HL2 : Hid (chain T pf addOps s = (l, s')) := by show _ = _; rw [← HL.out, chainLoop_stop hsee]
      have hoo : o = ⟨#[]⟩ := by rw [HO.out]; exact opAt_no hsee
      subst hoo
      clear HL hsee HO
      go_wp2
      go_ret2
      refine ⟨vv, jj, rfl, ?_⟩
      rw [HL2.out]; exact ⟨haj, hP, hk⟩

end

end Go.Proofs.YtklobognaldjpaaGreat

namespace Go.Proofs.YtklobognaldjpaaGreat
open Go.RowKit

section
variable {wb tb cap : Nat} {T : List Tok} {m : Option Nm} {d : Int} {pf : PS → Ex × PS}

set_option maxRecDepth 1000000 in
set_option maxHeartbeats 1000000 in
theorem refTerm_ok (hT : Toks T) (hF : ROK wb tb cap T m 225 d pf) (hM : Mon T pf) (hS : SM T pf) (hfx : ∀ f ∈ mulOps, Fx T f) : ROK wb tb cap T m 221 d (chain T pf mulOps) := by
  intro w s i live h hg hs hi
  have hsz := h.size
  have hm1 := hM s hg
  have hs1 := hS s hs
  have hg1' : (pf s).2.next < T.length := hm1.1
  have hF0 := hF w s i live h hg hs hi
  have hOp := fun (W : World) (s2 : PS) (i2 : Int) (hP : RW wb tb cap T m W s2) (hg2 : Good T s2) (hs2 : Stk T s2) (hi2 : At s2 i2) => operator_any hT (hP.alloc _) hg2 hs2 i2 hi2 W.heap.size 3 mulOps (by decide) (strs_new3 W [42] [47] [37] 9) hfx
  go_enter Tryz.func221, Tryz.ntmps221
  go_wp2_with (first
    | (go_at_call 225; refine hF0.mono ?_; rintro e w1 ⟨v1, j1, rfl, ha1, hP1, hk1⟩)
    | (go_at_call 217; refine (hOp _ _ j1 hP1 hm1.1 hs1.1 ha1.1).mono ?_; rintro e w2 ⟨rfl, h2⟩; obtain rfl := h2.symm; clear h2))
  go_loopw [10, 11, 12, 13, 14, 15] (fun v nx op _ _ _ wr => ∃ (s' : PS) (l : Ex) (n : Nat) (vv jj : Int) (o : ByteArray), v = .int .i64 vv ∧ nx = .int .i64 jj ∧ op = .string o ∧ Hid (o = opAt T mulOps s') ∧ RW wb tb cap T m wr s' ∧ Par wb w wr ∧ Good T s' ∧ Stk T s' ∧ AtR T s s' jj ∧ T.length ≤ s'.next + n ∧ Hid (chainLoop T pf mulOps n l s' = chain T pf mulOps s)) (fun _ nx _ _ _ _ _ => T.length - (intOf nx).toNat)
  case atStart => exact ⟨(pf s).2, (pf s).1, T.length, v1, j1, _, rfl, rfl, rfl, rfl, hP1.alloc _, hk1.alloc _, hm1.1, hs1.1, ha1, by omega, rfl⟩
  case round =>
    obtain ⟨s', l, n, vv, jj, o, rfl, rfl, rfl, HO, hP, hk, hg2, hs2, haj, hn2, HL⟩ := hrel
    have hg2' : s'.next < T.length := hg2
    cases hsee : seesAny T mulOps s' with
    | true =>
      have hga := seesAny_good hT hg2 ops_ne.1 hsee
      have hc2 := code_of_any hT hs2 ops_ne.1 hsee
      obtain rfl := haj.1 hc2
      have hsa : Stk T (adv s') := stk_adv hc2
      have hma := hM (adv s') hga
      have hsma := hS (adv s') hsa
      have hmg : (pf (adv s')).2.next < T.length := hma.1
      have hmn : s'.next + 1 ≤ (pf (adv s')).2.next := hma.2
      obtain ⟨nn, rfl⟩ : ∃ nn, n = nn + 1 := ⟨n - 1, by omega⟩
      have HL2 : Hid (chainLoop T pf mulOps nn (.bin (cur T s').text l (pf (adv s')).1) (pf (adv s')).2 = chain T pf mulOps s) := by show _ = _; rw [← HL.out, chainLoop_go hsee]
      have hA : Calls Tryz.prog 225 #[.pointer (some ⟨wb, 0, none⟩), .int .i64 ((s'.next : Int) + 1), .int .i64 d, .bool live] wr fun e w' => ∃ v j : Int, e = .returned (.tuple #[.int .i64 v, .int .i64 j]) ∧ AtR T (adv s') (pf (adv s')).2 j ∧ RW wb tb cap T m w' (pf (adv s')).2 ∧ Par wb wr w' := by
        exact hF wr (adv s') _ live (hP.at _) hga hsa (fun _ => by show _ = ((s'.next + 1 : Nat) : Int); omega)
      have hoo : o = bs [42] ∨ o = bs [47] ∨ o = bs [37] := by
        have := opAt_yes hsee
        rw [← HO.out] at this
        simpa [mulOps] using this
      clear HL hsee HO
      generalize (pf (adv s')).2 = s3 at *
      generalize (pf (adv s')).1 = e3 at *
      rcases hoo with rfl | rfl | rfl
      · simp only [bs]
        go_wp2_with (first
          | (go_at_call 225; refine hA.mono ?_; rintro e w4 ⟨v4, j4, rfl, ha4, hP4, hk4⟩)
          | (go_at_call 178; refine (lives_any hP4 _).mono ?_; rintro e w8 ⟨rfl, h8⟩; obtain rfl := h8.symm; clear h8)
          | (go_at_call 222; refine (refWrap_any _ _).mono ?_; rintro e w5 ⟨v5, rfl, h5⟩; obtain rfl := h5.symm; clear h5)
          | (go_at_call 217; refine (hOp _ _ j4 hP4 hma.1 hsma.1 ha4.1).mono ?_; rintro e w6 ⟨rfl, h6⟩; obtain rfl := h6.symm; clear h6))
        go_roundw
        case rel => exact ⟨s3, _, nn, v5, j4, _, rfl, rfl, rfl, rfl, hP4.alloc _, (hk.trans hk4).alloc _, hma.1, hsma.1, haj.step hc2 ha4, by omega, HL2⟩
        case measure => have hq := (ha4.2 hc2).1; have e9 : (adv s').next = s'.next + 1 := rfl; simp [intOf]; omega
      · simp only [bs]
        go_wp2_with (first
          | (go_at_call 225; refine hA.mono ?_; rintro e w4 ⟨v4, j4, rfl, ha4, hP4, hk4⟩)
          | (go_at_call 178; refine (lives_any hP4 _).mono ?_; rintro e w8 ⟨rfl, h8⟩; obtain rfl := h8.symm; clear h8)
          | (go_at_call 217; refine (hOp _ _ j4 hP4 hma.1 hsma.1 ha4.1).mono ?_; rintro e w6 ⟨rfl, h6⟩; obtain rfl := h6.symm; clear h6))
        go_roundw
        case rel => exact ⟨s3, _, nn, vv, j4, _, rfl, rfl, rfl, rfl, hP4.alloc _, (hk.trans hk4).alloc _, hma.1, hsma.1, haj.step hc2 ha4, by omega, HL2⟩
        case measure => have hq := (ha4.2 hc2).1; have e9 : (adv s').next = s'.next + 1 := rfl; simp [intOf]; omega
      · simp only [bs]
        go_wp2_with (first
          | (go_at_call 225; refine hA.mono ?_; rintro e w4 ⟨v4, j4, rfl, ha4, hP4, hk4⟩)
          | (go_at_call 178; refine (lives_any hP4 _).mono ?_; rintro e w8 ⟨rfl, h8⟩; obtain rfl := h8.symm; clear h8)
          | (go_at_call 217; refine (hOp _ _ j4 hP4 hma.1 hsma.1 ha4.1).mono ?_; rintro e w6 ⟨rfl, h6⟩; obtain rfl := h6.symm; clear h6))
        go_roundw
        case rel => exact ⟨s3, _, nn, vv, j4, _, rfl, rfl, rfl, rfl, hP4.alloc _, (hk.trans hk4).alloc _, hma.1, hsma.1, haj.step hc2 ha4, by omega, HL2⟩
        case measure => have hq := (ha4.2 hc2).1; have e9 : (adv s').next = s'.next + 1 := rfl; simp [intOf]; omega
    | false =>
      have HL2 : Hid (chain T pf mulOps s = (l, s')) := by show _ = _; rw [← HL.out, chainLoop_stop hsee]
      have hoo : o = ⟨#[]⟩ := by rw [HO.out]; exact opAt_no hsee
      subst hoo
      clear HL hsee HO
      go_wp2
      go_ret2
      refine ⟨vv, jj, rfl, ?_⟩
      rw [HL2.out]; exact ⟨haj, hP, hk⟩

set_option maxRecDepth 1000000 in
set_option maxHeartbeats 1000000 in
theorem refTest_ok (hT : Toks T) (hF : ROK wb tb cap T m 216 d pf) (hM : Mon T pf) (hS : SM T pf) (hfx : ∀ f ∈ testOps, Fx T f) : ROK wb tb cap T m 211 d (testP T pf) := by
  intro w s i live h hg hs hi
  have hsz := h.size
  have hm1 := hM s hg
  have hs1 := hS s hs
  have hg1' : (pf s).2.next < T.length := hm1.1
  have hF0 := hF w s i live h hg hs hi
  have hOp := fun (W : World) (i2 : Int) (hi2 : At (pf s).2 i2) (hP : RW wb tb cap T m W (pf s).2) => operator_any hT (hP.alloc _) hm1.1 hs1.1 i2 hi2 W.heap.size 4 testOps (by decide) (strs_new4 W [61] [35] [60] [62] 9) hfx
  cases hsee : seesAny T testOps (pf s).2 with
  | true =>
    have hga := seesAny_good hT hm1.1 ops_ne.2.2.1 hsee
    have hc2 := code_of_any hT hs1.1 ops_ne.2.2.1 hsee
    have hsa : Stk T (adv (pf s).2) := stk_adv hc2
    have HE : Hid ((testP T pf s).2 = (pf (adv (pf s).2)).2) := by show _ = _; unfold testP; rw [hsee]; rfl
    have hA : ∀ W, RW wb tb cap T m W (pf s).2 → Calls Tryz.prog 216 #[.pointer (some ⟨wb, 0, none⟩), .int .i64 (((pf s).2.next : Int) + 1), .int .i64 d, .bool live] W fun e w' => ∃ v j : Int, e = .returned (.tuple #[.int .i64 v, .int .i64 j]) ∧ AtR T (adv (pf s).2) (pf (adv (pf s).2)).2 j ∧ RW wb tb cap T m w' (pf (adv (pf s).2)).2 ∧ Par wb W w' := fun W hP => by
      exact hF W (adv (pf s).2) _ live (hP.at _) hga hsa (fun _ => by show _ = (((pf s).2.next + 1 : Nat) : Int); omega)
    have hoo : opAt T testOps (pf s).2 = bs [61] ∨ opAt T testOps (pf s).2 = bs [35] ∨ opAt T testOps (pf s).2 = bs [60] ∨ opAt T testOps (pf s).2 = bs [62] := by
      have := opAt_yes hsee
      simpa [testOps] using this
    generalize (pf (adv (pf s).2)).2 = s3 at *
    generalize opAt T testOps (pf s).2 = o at *
    clear hsee
    have fin : ∀ (W : World) (v j : Int), AtR T s s3 j → RW wb tb cap T m W s3 → Par wb w W → ∃ v' j' : Int, Ending.returned (Value.tuple #[.int .i64 v, .int .i64 j]) = .returned (.tuple #[.int .i64 v', .int .i64 j']) ∧ AtR T s (testP T pf s).2 j' ∧ RW wb tb cap T m W (testP T pf s).2 ∧ Par wb w W := fun W v j h0 h1 h2 => ⟨v, j, rfl, by rw [HE.out]; exact h0, by rw [HE.out]; exact h1, h2⟩
    rcases hoo with rfl | rfl | rfl | rfl
    all_goals simp only [bs] at hOp
    all_goals go_enter Tryz.func211, Tryz.ntmps211
    all_goals go_wp2_with (first
      | (go_at_call 216; refine (hA _ (hP1.alloc _)).mono ?_; rintro e w4 ⟨v4, j4, rfl, ha4, hP4, hk4⟩)
      | (go_at_call 216; refine hF0.mono ?_; rintro e w1 ⟨v1, j1, rfl, ha1, hP1, hk1⟩; obtain rfl := ha1.1 hc2)
      | (go_at_call 217; refine (hOp _ _ ha1.1 hP1).mono ?_; rintro e w2 ⟨rfl, h2⟩; obtain rfl := h2.symm; clear h2)
      | (go_at_call 76; refine (truth_any _ _).mono ?_; rintro e w5 ⟨v5, rfl, h5⟩; obtain rfl := h5.symm; clear h5))
    all_goals go_ret2
    all_goals exact fin _ v5 j4 (ha1.step hc2 ha4) hP4 ((hk1.alloc _).trans hk4)
  | false =>
    have HE : Hid (testP T pf s = pf s) := by show _ = _; unfold testP; rw [hsee]; rfl
    have hoo := opAt_no hsee
    rw [hoo] at hOp
    clear hsee hoo
    go_enter Tryz.func211, Tryz.ntmps211
    go_wp2_with (first
      | (go_at_call 216; refine hF0.mono ?_; rintro e w1 ⟨v1, j1, rfl, ha1, hP1, hk1⟩)
      | (go_at_call 217; refine (hOp _ j1 ha1.1 hP1).mono ?_; rintro e w2 ⟨rfl, h2⟩; obtain rfl := h2.symm; clear h2))
    go_ret2
    refine ⟨v1, j1, rfl, ?_⟩
    rw [HE.out]; exact ⟨ha1, hP1.alloc _, hk1.alloc _⟩

end

end Go.Proofs.YtklobognaldjpaaGreat
