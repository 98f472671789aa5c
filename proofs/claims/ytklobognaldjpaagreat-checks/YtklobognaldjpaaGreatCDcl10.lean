/- The reference's walk: the whole program. Plain: whoever has the text of a sign or keyword is one. The reference's Check: what it answers. -/
import Derived.Test.YtklobognaldjpaaGreatCDcl8
import Derived.Test.YtklobognaldjpaaGreatCWk9
import Derived.Test.YtklobognaldjpaaGreatCLook5
import Derived.Test.YtklobognaldjpaaGreatCOk2
import Derived.Test.YtklobognaldjpaaGreatCChkP
namespace Go.Proofs.YtklobognaldjpaaGreat
open Go.RowKit

section
variable {wb tb cap : Nat} {T : List Tok} {m : Option Nm} {n : Nm} {w w0 : World} {s : PS}

set_option maxRecDepth 1000000 in
set_option maxHeartbeats 8000000 in
theorem refProgram_any (hT : Toks T) (hfx : FxA T) (hRo : RRout wb tb cap T w) (h : RD wb tb cap T w m (w.setCell ⟨wb, 6, none⟩ (.int .i64 (-1))) ⟨0, 0, 0⟩) (hcn : CntE (mdE m) ⟨0, 0, 0⟩) (h6 : (w.cell? ⟨wb, 6, none⟩).isSome = true) (hf6 : w.frozen? ⟨wb, 6, none⟩ = false) :
    Calls Tryz.prog 67 #[.pointer (some ⟨wb, 0, none⟩)] w fun e w' => e = .returned (.tuple #[]) ∧ ∃ m' r, RW wb tb cap T m' w' r ∧ Same r (programN T (mdE m) ⟨0, 0, 0⟩) ∧ Par wb w w' := by
  have hsz := h.rw.size
  have hpos := hT.pos
  obtain ⟨v6, hv6⟩ := Option.isSome_iff_exists.1 h6
  have HP0 : Hid (programN T (mdE m) ⟨0, 0, 0⟩ = finN T T.length (mdE m) ⟨0, 0, 0⟩) := rfl
  clear h6
  go_enter Tryz.func67, Tryz.ntmps67
  go_wp2
  go_loopw [2, 3, 4, 5, 6] (fun i _ _ _ _ wr => ∃ (s' : PS) (mm : Option Nm) (nn : Nat) (E' : Option Env) (jj : Int), i = .int .i64 jj ∧ At s' jj ∧ RD wb tb cap T w mm wr s' ∧ Good T s' ∧ Stk T s' ∧ Hid (s'.code = 0 → mdE mm = E' ∧ CntE E' s') ∧ T.length ≤ s'.next + nn ∧ Hid (finN T nn E' s' = programN T (mdE m) ⟨0, 0, 0⟩)) (fun i _ _ _ _ wr => leftOf T.length wr wb i)
  case atStart => exact ⟨⟨0, 0, 0⟩, m, T.length, mdE m, 0, rfl, fun _ => rfl, h, hpos, stk0 rfl, fun _ => ⟨rfl, hcn⟩, by omega, HP0.out.symm⟩
  case round =>
    obtain ⟨s', mm, nn, E', jj, rfl, haj, hD, hg2, hs2, HE, hn2, HL⟩ := hrel
    have hg2' : s'.next < T.length := hg2
    have hfa := hD.rw.fault
    by_cases hc : s'.code = 0
    · obtain rfl := haj hc
      rw [hc] at hfa
      obtain ⟨he, hcn2⟩ := HE.out hc
      have HFA : Hid (wr.cell? ⟨wb, 2, none⟩ = some (.int .i64 0)) := hfa
      have iB := is_any hT hD.rw hg2 hs2 s'.next (fun _ => rfl) (bs [98, 101, 103, 105, 110]) (hfx _ (by decide))
      have iV := is_any hT hD.rw hg2 hs2 s'.next (fun _ => rfl) (bs [118, 97, 114]) (hfx _ (by decide))
      have iP := is_any hT hD.rw hg2 hs2 s'.next (fun _ => rfl) (bs [112, 114, 111, 99]) (hfx _ (by decide))
      have iF := is_any hT hD.rw hg2 hs2 s'.next (fun _ => rfl) (bs [102, 117, 110, 99]) (hfx _ (by decide))
      have hia : At (adv s') ((s'.next : Int) + 1) := fun _ => by show _ = ((s'.next + 1 : Nat) : Int); omega
      have hsa : Stk T (adv s') := stk_adv hc
      have hDa : RD wb tb cap T w mm wr (adv s') := hD.at _
      cases yB : sees T (bs [98, 101, 103, 105, 110]) s' with
      | true =>
        rw [yB] at iB
        rw [sees_one (b := [118, 97, 114]) yB (by decide)] at iV
        rw [sees_one (b := [112, 114, 111, 99]) yB (by decide)] at iP
        rw [sees_one (b := [102, 117, 110, 99]) yB (by decide)] at iF
        have hga := good_adv hT hg2 yB (bs_ne _ (by simp))
        have hBo := refBody_any hT hfx hDa.rw hga hsa ((s'.next : Int) + 1) hia
        rw [he] at hBo
        have HX : Hid (programN T (mdE m) ⟨0, 0, 0⟩ = endP T (want T (bs [46]) (want T (bs [101, 110, 100]) (listOf T (stmtN T E' 14) (adv s')).2))) := by show _ = _; rw [← HL.out, finN_begin yB]
        clear HL yB HE
        go_wp2_with (first
            | (go_at_call 94; have _q := mk3; refine iF.mono ?_; rintro e w1 ⟨rfl, h1⟩; obtain rfl := h1.symm; clear h1)
            | (go_at_call 94; have _q := mk2; refine iP.mono ?_; rintro e w1 ⟨rfl, h1⟩; obtain rfl := h1.symm; clear h1; have mk3 : Hid True := trivial)
            | (go_at_call 94; have _q := mk1; refine iV.mono ?_; rintro e w1 ⟨rfl, h1⟩; obtain rfl := h1.symm; clear h1; have mk2 : Hid True := trivial)
            | (go_at_call 94; refine iB.mono ?_; rintro e w1 ⟨rfl, h1⟩; obtain rfl := h1.symm; clear h1; have mk1 : Hid True := trivial)
            | (go_at_call 95; refine hBo.mono ?_; rintro e w2 ⟨rfl, r2, hP2, hr2, hk2⟩))
        (try simp only [Exit.inBlock, Exit.then])
        refine bodyPost_ret (results_none rfl _ _ _) rfl ?_
        rw [HX.out]
        exact ⟨rfl, mm, r2, hP2, hr2, hD.par.trans hk2⟩
      | false =>
      have nB := yB
      clear yB
      obtain ⟨n2, rfl⟩ : ∃ n2, nn = n2 + 1 := ⟨nn - 1, by omega⟩
      cases yV : sees T (bs [118, 97, 114]) s' with
      | true =>
        rw [nB] at iB
        rw [yV] at iV
        rw [sees_one (b := [112, 114, 111, 99]) yV (by decide)] at iP
        rw [sees_one (b := [102, 117, 110, 99]) yV (by decide)] at iF
        have hga := good_adv hT hg2 yV (bs_ne _ (by simp))
        have hV := vars_any hT hfx hDa hga hsa ((s'.next : Int) + 1) hia (fun _ => by rw [he]; exact hcn2.le (Nat.le_succ _))
        rw [he] at hV
        have hgv := go2_itemsN hT E' hga hsa
        have HC : Hid ((itemsN T E' (adv s')).2.code = 0 → CntE (itemsN T E' (adv s')).1 (itemsN T E' (adv s')).2) := fun h0 => cnt_itemsN hT (hcn2.le (Nat.le_succ _)) hga hsa h0
        have HX : Hid (finN T n2 (itemsN T E' (adv s')).1 (itemsN T E' (adv s')).2 = programN T (mdE m) ⟨0, 0, 0⟩) := by show _ = _; rw [← HL.out, finN_var yV]
        have hle : s'.next + 1 ≤ (itemsN T E' (adv s')).2.next := hgv.le
        generalize itemsN T E' (adv s') = D at *
        clear HL yV nB HE
        go_wp2_with (first
            | (go_at_call 94; have _q := mk3; refine iF.mono ?_; rintro e w1 ⟨rfl, h1⟩; obtain rfl := h1.symm; clear h1)
            | (go_at_call 94; have _q := mk2; refine iP.mono ?_; rintro e w1 ⟨rfl, h1⟩; obtain rfl := h1.symm; clear h1; have mk3 : Hid True := trivial)
            | (go_at_call 94; have _q := mk1; refine iV.mono ?_; rintro e w1 ⟨rfl, h1⟩; obtain rfl := h1.symm; clear h1; have mk2 : Hid True := trivial)
            | (go_at_call 94; refine iB.mono ?_; rintro e w1 ⟨rfl, h1⟩; obtain rfl := h1.symm; clear h1; have mk1 : Hid True := trivial)
            | (go_at_call 96; refine hV.mono ?_; rintro e w2 ⟨j2, m2, rfl, ha2, hs2m, he2, hD2⟩))
        go_roundw
        case rel => exact ⟨D.2, m2, n2, D.1, j2, rfl, ha2, hD2, hgv.good, hgv.stk, (fun h0 => ⟨he2 h0, HC.out h0⟩), by omega, HX⟩
        case measure => exact left_less HFA.out hg2' hD2.rw.fault (fun h0 => ⟨ha2 h0, by omega⟩)
      | false =>
      have nV := yV
      clear yV
      cases yP : sees T (bs [112, 114, 111, 99]) s' with
      | true =>
        rw [nB] at iB
        rw [nV] at iV
        rw [yP] at iP
        rw [sees_one (b := [102, 117, 110, 99]) yP (by decide)] at iF
        have hga := good_adv hT hg2 yP (bs_ne _ (by simp))
        have hV := hRo mm wr (adv s') ((s'.next : Int) + 1) 2 hDa hga hsa hia (fun _ => by rw [he]; exact hcn2.le (Nat.le_succ _))
        rw [he] at hV
        have hgv := go2_routineN hT E' 2 hga hsa
        have HC : Hid ((routineN T E' 2 (adv s')).2.code = 0 → CntE (routineN T E' 2 (adv s')).1 (routineN T E' 2 (adv s')).2) := fun h0 => cnt_routineN hT (hcn2.le (Nat.le_succ _)) hga hsa h0
        have HX : Hid (finN T n2 (routineN T E' 2 (adv s')).1 (routineN T E' 2 (adv s')).2 = programN T (mdE m) ⟨0, 0, 0⟩) := by show _ = _; rw [← HL.out, finN_proc yP]
        have hle : s'.next + 1 ≤ (routineN T E' 2 (adv s')).2.next := hgv.le
        generalize routineN T E' 2 (adv s') = D at *
        clear HL yP nB nV HE
        go_wp2_with (first
            | (go_at_call 94; have _q := mk3; refine iF.mono ?_; rintro e w1 ⟨rfl, h1⟩; obtain rfl := h1.symm; clear h1)
            | (go_at_call 94; have _q := mk2; refine iP.mono ?_; rintro e w1 ⟨rfl, h1⟩; obtain rfl := h1.symm; clear h1; have mk3 : Hid True := trivial)
            | (go_at_call 94; have _q := mk1; refine iV.mono ?_; rintro e w1 ⟨rfl, h1⟩; obtain rfl := h1.symm; clear h1; have mk2 : Hid True := trivial)
            | (go_at_call 94; refine iB.mono ?_; rintro e w1 ⟨rfl, h1⟩; obtain rfl := h1.symm; clear h1; have mk1 : Hid True := trivial)
            | (go_at_call 97; refine hV.mono ?_; rintro e w2 ⟨j2, m2, rfl, ha2, hs2m, he2, hD2⟩))
        go_roundw
        case rel => exact ⟨D.2, m2, n2, D.1, j2, rfl, ha2, hD2, hgv.good, hgv.stk, (fun h0 => ⟨he2 h0, HC.out h0⟩), by omega, HX⟩
        case measure => exact left_less HFA.out hg2' hD2.rw.fault (fun h0 => ⟨ha2 h0, by omega⟩)
      | false =>
      have nP := yP
      clear yP
      cases yF : sees T (bs [102, 117, 110, 99]) s' with
      | true =>
        rw [nB] at iB
        rw [nV] at iV
        rw [nP] at iP
        rw [yF] at iF
        have hga := good_adv hT hg2 yF (bs_ne _ (by simp))
        have hV := hRo mm wr (adv s') ((s'.next : Int) + 1) 3 hDa hga hsa hia (fun _ => by rw [he]; exact hcn2.le (Nat.le_succ _))
        rw [he] at hV
        have hgv := go2_routineN hT E' 3 hga hsa
        have HC : Hid ((routineN T E' 3 (adv s')).2.code = 0 → CntE (routineN T E' 3 (adv s')).1 (routineN T E' 3 (adv s')).2) := fun h0 => cnt_routineN hT (hcn2.le (Nat.le_succ _)) hga hsa h0
        have HX : Hid (finN T n2 (routineN T E' 3 (adv s')).1 (routineN T E' 3 (adv s')).2 = programN T (mdE m) ⟨0, 0, 0⟩) := by show _ = _; rw [← HL.out, finN_func yF]
        have hle : s'.next + 1 ≤ (routineN T E' 3 (adv s')).2.next := hgv.le
        generalize routineN T E' 3 (adv s') = D at *
        clear HL yF nB nV nP HE
        go_wp2_with (first
            | (go_at_call 94; have _q := mk3; refine iF.mono ?_; rintro e w1 ⟨rfl, h1⟩; obtain rfl := h1.symm; clear h1)
            | (go_at_call 94; have _q := mk2; refine iP.mono ?_; rintro e w1 ⟨rfl, h1⟩; obtain rfl := h1.symm; clear h1; have mk3 : Hid True := trivial)
            | (go_at_call 94; have _q := mk1; refine iV.mono ?_; rintro e w1 ⟨rfl, h1⟩; obtain rfl := h1.symm; clear h1; have mk2 : Hid True := trivial)
            | (go_at_call 94; refine iB.mono ?_; rintro e w1 ⟨rfl, h1⟩; obtain rfl := h1.symm; clear h1; have mk1 : Hid True := trivial)
            | (go_at_call 97; refine hV.mono ?_; rintro e w2 ⟨j2, m2, rfl, ha2, hs2m, he2, hD2⟩))
        go_roundw
        case rel => exact ⟨D.2, m2, n2, D.1, j2, rfl, ha2, hD2, hgv.good, hgv.stk, (fun h0 => ⟨he2 h0, HC.out h0⟩), by omega, HX⟩
        case measure => exact left_less HFA.out hg2' hD2.rw.fault (fun h0 => ⟨ha2 h0, by omega⟩)
      | false =>
        have nF := yF
        rw [nB] at iB
        rw [nV] at iV
        rw [nP] at iP
        rw [nF] at iF
        have hW := wrong_any hD.rw hg2 4 s'.next (fun _ => rfl)
        have hd4 : (fails T 4 s').code = 4 := by simp [fails, hc]
        have HX : Hid (finN T (n2 + 1) E' (fails T 4 s') = programN T (mdE m) ⟨0, 0, 0⟩) := by show _ = _; rw [← HL.out, finN_bad hT (n2 + 1) E' hc nV nP nF nB]
        have hgf := good_fails hT 4 s'
        have hlf := le_fails (T := T) 4 hg2
        have hsf : Stk T (fails T 4 s') := stk_fails 4 s'
        generalize fails T 4 s' = s9 at *
        clear HL yF nB nV nP nF HE
        go_wp2_with (first
            | (go_at_call 94; have _q := mk3; refine iF.mono ?_; rintro e w1 ⟨rfl, h1⟩; obtain rfl := h1.symm; clear h1)
            | (go_at_call 94; have _q := mk2; refine iP.mono ?_; rintro e w1 ⟨rfl, h1⟩; obtain rfl := h1.symm; clear h1; have mk3 : Hid True := trivial)
            | (go_at_call 94; have _q := mk1; refine iV.mono ?_; rintro e w1 ⟨rfl, h1⟩; obtain rfl := h1.symm; clear h1; have mk2 : Hid True := trivial)
            | (go_at_call 94; refine iB.mono ?_; rintro e w1 ⟨rfl, h1⟩; obtain rfl := h1.symm; clear h1; have mk1 : Hid True := trivial)
            | (go_at_call 98; refine hW.mono ?_; rintro e w2 ⟨rfl, hP2, hk2⟩))
        go_roundw
        case rel => exact ⟨s9, mm, n2 + 1, E', s'.next, rfl, (fun h0 => by rw [hd4] at h0; cases h0), hD.step hP2 hk2, hgf, hsf, (fun h0 => by rw [hd4] at h0; cases h0), by omega, HX⟩
        case measure => exact left_less (i' := 0) HFA.out hg2' hP2.fault (fun h0 => by rw [hd4] at h0; cases h0)
    · have hz' : ((s'.code : Int) == 0) = false := by simp; omega
      have HX : Hid (Same s' (programN T (mdE m) ⟨0, 0, 0⟩)) := by
        show Same _ _
        rw [← HL.out]; exact finN_dead hT nn E' hg2 hs2 hc
      clear hc HL HE
      go_wp2
      go_end0
      exact ⟨rfl, mm, s', hD.rw, HX.out, hD.par⟩

end

end Go.Proofs.YtklobognaldjpaaGreat

namespace Go.Proofs.YtklobognaldjpaaGreat

theorem fixed_facts : ∀ f ∈ fixedTexts, (keywords.contains f = true ∨ ∀ c, f.head? = some c → letterB c = false) ∧ ∀ c, f.head? = some c → digitB c = false := by
  have h : ∀ f ∈ fixedTexts, (keywords.contains f || (match f.head? with | some c => !letterB c | none => true)) = true ∧ (match f.head? with | some c => !digitB c | none => true) = true := by decide
  intro f hf
  obtain ⟨h1, h2⟩ := h f hf
  refine ⟨?_, fun c hc => ?_⟩
  · simp only [Bool.or_eq_true] at h1
    rcases h1 with h1 | h1
    · exact .inl h1
    · right
      intro c hc
      rw [hc] at h1
      simpa using h1
  · rw [hc] at h2
    simpa using h2

theorem lex1_fx {l : List UInt8} {k : TK} {n v : Nat} (h : lex1 l = .ok (k, n, v)) {f : List UInt8} (hf : f ∈ fixedTexts) (he : l.take n = f) : k = .sign ∨ k = .keyword := by
  have hn := lex1_pos h
  obtain ⟨f1, f2⟩ := fixed_facts f hf
  unfold lex1 at h
  split at h
  · cases h
  · rename_i c r
    have hh : f.head? = some c := by
      rw [← he]
      cases n with
      | zero => omega
      | succ n => rfl
    split at h
    · rename_i hl
      simp only [Except.ok.injEq, Prod.mk.injEq] at h
      obtain ⟨h1, h2, _⟩ := h
      rw [h2, he] at h1
      rcases f1 with f1 | f1
      · rw [if_pos f1] at h1; exact .inr h1.symm
      · have := f1 c hh; rw [hl] at this; cases this
    · split at h
      · rename_i hd
        have := f2 c hh; rw [hd] at this; cases this
      · split at h
        · simp only [Except.ok.injEq, Prod.mk.injEq] at h; exact .inl h.1.symm
        · split at h
          · simp only [Except.ok.injEq, Prod.mk.injEq] at h; exact .inl h.1.symm
          · cases h

def TokFx (t : Tok) : Prop := ∀ f ∈ fixedTexts, t.text.toList = f → t.kind = .sign ∨ t.kind = .keyword

theorem fixed_ne : ∀ f ∈ fixedTexts, f ≠ [] := by decide

theorem mkTok_fx {l : List UInt8} {q : Nat} {x : TK × Nat × Nat} (h : lex1 (l.drop q) = .ok x) : TokFx (mkTok l q x) := by
  intro f hf he
  refine lex1_fx (l := l.drop q) (k := x.1) (n := x.2.1) (v := x.2.2) h hf ?_
  rw [← he]
  show _ = (bs ((l.drop q).take x.2.1)).toList
  rw [bsl]

theorem overTok_fx (l : List UInt8) : TokFx (overTok l) := by
  intro f hf he
  exfalso
  exact fixed_ne f hf (by rw [← he]; show (bs []).toList = []; rw [bsl])

theorem lexAt_fx (l : List UInt8) : ∀ (k q : Nat) (T : List Tok), l.length - q ≤ k → lexAt l q = .ok T → ∀ t ∈ T, TokFx t
  | 0, q, T, hk, h => by
    rw [lexAt_end (by omega)] at h
    cases h
    intro t ht
    simp at ht
    subst ht
    exact overTok_fx l
  | k + 1, q, T, hk, h => by
    by_cases hq : q < l.length
    · cases hx : lex1 (l.drop q) with
      | error c => rw [lexAt_bad hq hx] at h; cases h
      | ok x =>
        rw [lexAt_ok hq hx] at h
        have hp := lex1_pos (k := x.1) (n := x.2.1) (v := x.2.2) hx
        have hg := gap_ge l (q + x.2.1)
        cases hr : lexAt l (gap l (q + x.2.1)) with
        | error e => rw [hr] at h; cases h
        | ok r =>
          rw [hr] at h
          cases h
          have ih := lexAt_fx l k (gap l (q + x.2.1)) r (by omega) hr
          intro t ht
          rcases List.mem_cons.1 ht with rfl | ht
          · exact mkTok_fx hx
          · exact ih t ht
    · rw [lexAt_end hq] at h
      cases h
      intro t ht
      simp at ht
      subst ht
      exact overTok_fx l

/-- The tokens of a text. -/
theorem fxA_lex {l : List UInt8} {T : List Tok} (h : lexAll l = .ok T) : FxA T := by
  intro f hf
  refine ⟨by rw [bsl]; exact fixed_ne f hf, fun t ht he => ?_⟩
  rw [bsl] at he
  exact lexAt_fx l _ _ T (Nat.le_refl _) h t ht f hf (by simpa using he)

theorem fx_no {T : List Tok} (hfx : FxA T) {t : Tok} (ht : t ∈ T) (hk : t.kind = .name ∨ t.kind = .number) {f : List UInt8} (hf : f ∈ fixedTexts) : (t.text.toList == f) = false := by
  cases h : (t.text.toList == f) with
  | false => rfl
  | true =>
    have h2 := (hfx f hf).2 t ht (by rw [bsl]; exact h)
    rcases hk with hk | hk <;> (rw [hk] at h2; simp at h2)

theorem br_fx {T : List Tok} (hfx : FxA T) : Br T := by
  intro t ht hk
  refine ⟨?_, ?_, ?_⟩
  · rw [isOpen_eq, fx_no hfx ht hk (by decide), fx_no hfx ht hk (by decide)]; rfl
  · rw [isClose_eq, fx_no hfx ht hk (by decide), fx_no hfx ht hk (by decide)]; rfl
  · rw [isComma_eq, fx_no hfx ht hk (by decide)]

theorem hnn_fx {T : List Tok} (hfx : FxA T) : ∀ s, Good T s → sees T (bs [41]) s = true → ¬ (cur T s).kind = .name := by
  intro s hg h hk
  have h2 := (hfx [41] (by decide)).2 _ (cur_mem hg) h
  rw [hk] at h2
  simp at h2

end Go.Proofs.YtklobognaldjpaaGreat

namespace Go.Proofs.YtklobognaldjpaaGreat
open Go.RowKit

def nm0 : Nm := ⟨env0, .slice none 0 0, .slice none 0 0⟩

/-- A new walk, in memory. -/
def walkCells (tb len cap : Nat) (mode : Int) : Array Value := #[.slice (some ⟨tb, 0, none⟩) len cap, .int .i64 mode, .int .i64 0, .int .i64 0, .slice none 0 0, .slice none 0 0, .int .i64 0, .slice none 0 0, .int .i64 0, .int .i64 0, .bool false, .bool false, .int .i64 0, .slice none 0 0, .int .i64 0]

section
variable {tb cap : Nat} {T : List Tok} {W : World}

theorem walk_start (hsz : T.length ≤ 601) (htl : tb < W.heap.size) (htok : ∀ j u, (toksRC T)[j]? = some u → W.cell? ⟨tb, j, none⟩ = some u) (m : Option Nm) (hm : m = none ∨ m = some nm0) (ty : TypeId) :
    RD W.heap.size tb cap T (W.alloc (.cells (walkCells tb T.length cap (mdI m)) ty)) m ((W.alloc (.cells (walkCells tb T.length cap (mdI m)) ty)).setCell ⟨W.heap.size, 6, none⟩ (.int .i64 (-1))) ⟨0, 0, 0⟩ := by
  have c := fun o => World.cell?_alloc_new W (walkCells tb T.length cap (mdI m)) ty o
  have f := fun o => World.frozen?_alloc_new W (walkCells tb T.length cap (mdI m)) ty o
  have ex : ∀ o, o ≠ 6 → ((W.alloc (.cells (walkCells tb T.length cap (mdI m)) ty)).setCell ⟨W.heap.size, 6, none⟩ (.int .i64 (-1))).cell? ⟨W.heap.size, o, none⟩ = (walkCells tb T.length cap (mdI m))[o]? := fun o ho => by
    rw [World.cell?_setCell_other _ _ _ _ (by intro e; cases e; exact ho rfl)]; exact c o
  have e6 : ((W.alloc (.cells (walkCells tb T.length cap (mdI m)) ty)).setCell ⟨W.heap.size, 6, none⟩ (.int .i64 (-1))).cell? ⟨W.heap.size, 6, none⟩ = some (.int .i64 (-1)) := World.cell?_setCell_same _ _ _ ((c 6).trans rfl)
  have hsz2 : ((W.alloc (.cells (walkCells tb T.length cap (mdI m)) ty)).setCell ⟨W.heap.size, 6, none⟩ (.int .i64 (-1))).heap.size = W.heap.size + 1 := by simp [World.setCell]
  refine ⟨⟨?_, ?_, ?_, ?_, ?_, ?_, ?_, by omega, by rw [hsz2]; omega, hsz, ?_, ?_⟩, ?_, ?_, by simp, by simp; omega⟩
  · rw [ex _ (by decide)]; rfl
  · rw [ex _ (by decide)]; rfl
  · rw [ex _ (by decide)]; rfl
  · rw [ex _ (by decide)]; rfl
  · rw [ex _ (by decide)]; rfl
  · intro o; rw [World.frozen?_setCell]; exact f o
  · intro j u hj
    rw [World.cell?_setCell_other _ _ _ _ (by intro e; cases e; omega), World.cell?_alloc_lt _ _ _ htl]
    exact htok j u hj
  · intro n hn
    rcases hm with rfl | rfl
    · cases hn
    · cases hn
      refine ⟨?_, ?_, e6, .inl ⟨rfl, rfl⟩, .inl ⟨rfl, rfl⟩, by simp [nm0, Value.ownBlock], by simp [nm0, Value.ownBlock], (fun y hy => by cases hy), by simp [nm0, env0], by simp [nm0, env0], fun k hk => by cases hk⟩
      · rw [ex _ (by decide)]; rfl
      · rw [ex _ (by decide)]; rfl
  · intro o ho
    rcases ho with rfl | rfl
    · rw [ex _ (by decide)]; rfl
    · rw [e6]; rfl
  · exact (Par.refl _ _).setCell _ _
  · intro n hn
    rcases hm with rfl | rfl
    · cases hn
    · cases hn
      exact ⟨⟨[], World.ownsRow_nil _ _ _ _⟩, ⟨[], World.ownsRow_nil _ _ _ _⟩, fun b hb => by simp [nm0, Value.ownBlock] at hb, fun hf => by cases hf⟩

end

end Go.Proofs.YtklobognaldjpaaGreat
