/- The reference's Check. -/
import Derived.Test.YtklobognaldjpaaGreatCDcl10
import Derived.Test.YtklobognaldjpaaGreatCDecl6
namespace Go.Proofs.YtklobognaldjpaaGreat
open Go.RowKit

theorem names_answer {T : List Tok} (hT : Toks T) (hfx : FxA T) (h : (programP T ⟨0, 0, 0⟩).2.code = 0) :
    ((programN T (some env0) ⟨0, 0, 0⟩).code, (programN T (some env0) ⟨0, 0, 0⟩).at_) = (match lookPr env0 (programP T ⟨0, 0, 0⟩).1 with | none => (0, 0) | some x => x) := by
  have hg : Good T ⟨0, 0, 0⟩ := hT.pos
  obtain ⟨h1, h2⟩ := rel_program (E := env0) hT (br_fx hfx) (hnn_fx hfx) hg rfl h
  cases hl : lookPr env0 (programP T ⟨0, 0, 0⟩).1 with
  | none =>
    rw [hl] at h1
    have h3 := kp_programN hT (some env0) hg (stk0 rfl) h1
    show (_, _) = ((0 : Nat), (0 : Nat))
    rw [h1, h3]
  | some x =>
    rw [hl] at h1
    show (_, _) = x
    rw [h1, h2 x hl]

set_option maxRecDepth 1000000 in
set_option maxHeartbeats 4000000 in
theorem refCheck_any (hRo : ∀ (wb tb cap : Nat) (T : List Tok) (w0 : World), Toks T → FxA T → RRout wb tb cap T w0) (s : ByteArray) (w : World) :
    Calls Tryz.prog 39 #[.string s] w fun e w' => e = .returned (.tuple #[.int .i64 ((checkP s.data.toList).1 : Nat), .int .i64 ((checkP s.data.toList).2 : Nat)]) ∧ Below w.heap.size w w' := by
  have hlen : s.data.toList.length = s.size := len_toList s
  by_cases hbig : 600 < s.size
  · have HA : Hid (checkP s.data.toList = (1, 0)) := by show _ = _; unfold checkP; rw [if_pos (by omega)]
    have hb : (600 : Int) < (s.size : Int) := by omega
    clear hbig hlen
    go_enter Tryz.func39, Tryz.ntmps39
    go_wp2
    go_ret2
    rw [HA.out]
    exact ⟨rfl, Below.refl _ _⟩
  · have hb : ¬ (600 : Int) < (s.size : Int) := by omega
    have hTk := refTokens_any s w (by omega)
    cases hlex : lexAll s.data.toList with
    | error x =>
      obtain ⟨c, q⟩ := x
      have HA : Hid (checkP s.data.toList = (c, q)) := by show _ = _; unfold checkP; rw [if_neg (by omega), hlex]
      have hT2 : Calls Tryz.prog 66 #[.string s] w fun e w' => e = .returned (.tuple #[.slice none 0 0, .int .i64 c, .int .i64 q]) ∧ Below w.heap.size w w' := by
        refine hTk.mono ?_
        rintro e w' ⟨hbl, ⟨c2, q2, hl, rfl⟩ | ⟨ts, v, hl, rfl, ho⟩⟩
        · rw [hlex] at hl; cases hl; exact ⟨rfl, hbl⟩
        · rw [hlex] at hl; cases hl
      have hc0 := lexAll_err hlex
      have hcb : ((c : Int) != 0) = true := by simp; omega
      clear hTk hlex hc0 hbig hlen
      go_enter Tryz.func39, Tryz.ntmps39
      go_wp2_with (go_at_call 66; refine hT2.mono ?_; rintro e w1 ⟨rfl, hb1⟩)
      go_ret2
      rw [HA.out]
      exact ⟨rfl, hb1⟩
    | ok T =>
      obtain ⟨hTl, hT⟩ := lexAt_len s.data.toList _ _ T (Nat.le_refl _) hlex
      have hfx : FxA T := fxA_lex hlex
      have hT601 : T.length ≤ 601 := by omega
      have hpos := hT.pos
      have hT2 : Calls Tryz.prog 66 #[.string s] w fun e w' => ∃ tb cap, e = .returned (.tuple #[.slice (some ⟨tb, 0, none⟩) T.length cap, .int .i64 0, .int .i64 0]) ∧ Below w.heap.size w w' ∧ tb < w'.heap.size ∧ ∀ j u, (toksRC T)[j]? = some u → w'.cell? ⟨tb, j, none⟩ = some u := by
        refine hTk.mono ?_
        rintro e w' ⟨hbl, ⟨c2, q2, hl, rfl⟩ | ⟨ts, v, hl, rfl, ho⟩⟩
        · rw [hlex] at hl; cases hl
        · rw [hlex] at hl
          cases hl
          obtain ⟨tb, cap, rfl, _, hlt⟩ := ho.form hpos
          refine ⟨tb, cap, rfl, hbl, hlt, fun j u hj => ?_⟩
          have hjl : j < (toksRC T).length := (List.getElem?_eq_some_iff.1 hj).1
          rw [ho.cellAt j (by rw [ho.1] at hjl; exact hjl)]
          exact hj
      have hPr := fun (W : World) (tb cap : Nat) (htl : tb < W.heap.size) (htok : ∀ j u, (toksRC T)[j]? = some u → W.cell? ⟨tb, j, none⟩ = some u) (m : Option Nm) (hm : m = none ∨ m = some nm0) =>
        refProgram_any (m := m) hT hfx (hRo W.heap.size tb cap T (W.alloc (.cells (walkCells tb T.length cap (mdI m)) 126)) hT hfx) (walk_start (cap := cap) hT601 htl htok m hm 126)
          (by rcases hm with rfl | rfl
              · intro E hE; cases hE
              · intro E hE; cases hE; exact ⟨by simp [nm0, env0], by simp [nm0, env0]⟩)
          (by rw [World.cell?_alloc_new]; rcases hm with rfl | rfl <;> rfl) (World.frozen?_alloc_new _ _ _ _)
      have hP0 := fun (W : World) (tb cap : Nat) htl htok => hPr W tb cap htl htok none (.inl rfl)
      have hP1 := fun (W : World) (tb cap : Nat) htl htok => hPr W tb cap htl htok (some nm0) (.inr rfl)
      have eN : programN T (mdE none) ⟨0, 0, 0⟩ = (programP T ⟨0, 0, 0⟩).2 := programN_none _
      rw [eN] at hP0
      have eM : programN T (mdE (some nm0)) ⟨0, 0, 0⟩ = programN T (some env0) ⟨0, 0, 0⟩ := rfl
      rw [eM] at hP1
      simp only [mdI, walkCells] at hP0 hP1
      by_cases hc : (programP T ⟨0, 0, 0⟩).2.code = 0
      · have HA : Hid (checkP s.data.toList = ((programN T (some env0) ⟨0, 0, 0⟩).code, (programN T (some env0) ⟨0, 0, 0⟩).at_)) := by
          show _ = _
          rw [names_answer hT hfx hc]
          unfold checkP
          rw [if_neg (by omega), hlex]
          simp only
          rw [if_pos hc]
          cases lookPr env0 (programP T ⟨0, 0, 0⟩).1 <;> rfl
        generalize programN T (some env0) ⟨0, 0, 0⟩ = rN at *
        generalize (programP T ⟨0, 0, 0⟩).2 = rP at *
        clear hPr eN eM hTk hlex hbig hlen hTl
        go_enter Tryz.func39, Tryz.ntmps39
        go_wp2_with (first
          | (go_at_call 66; refine hT2.mono ?_; rintro e w1 ⟨tb, cap, rfl, hb1, htl1, htok1⟩; have HT1 : Hid (∀ j u, (toksRC T)[j]? = some u → w1.cell? ⟨tb, j, none⟩ = some u) := htok1; clear htok1)
          | (go_at_call 67; have _q := HW2; refine (hP1 w2 tb cap HW2.out.1 HW2.out.2).mono ?_; rintro e w3 ⟨rfl, m3, r3, hR3, hr3, hk3⟩; have hf3 := hR3.fault; have hp3 := hR3.place; rw [hr3.1] at hf3; rw [hr3.2] at hp3)
          | (go_at_call 67; refine (hP0 w1 tb cap htl1 HT1.out).mono ?_; rintro e w2 ⟨rfl, m2, r2, hR2, hr2, hk2⟩; have hf2 := hR2.fault; rw [hr2.1, hc] at hf2; have HW2 : Hid (tb < w2.heap.size ∧ ∀ j u, (toksRC T)[j]? = some u → w2.cell? ⟨tb, j, none⟩ = some u) := ⟨hR2.tlt, hR2.tok⟩; have hwl2 := hR2.lt))
        go_quiet (fail)
        go_wp2
        go_ret2
        rw [HA.out]
        have hs1 := hb1.size
        refine ⟨rfl, ?_⟩
        have k1 : Below w.heap.size w (w1.alloc (.cells (walkCells tb T.length cap 0) 126)) := hb1.alloc hs1 _
        have k2 := k1.trans (hk2.toBelow (B := w.heap.size) (by simp; omega) hs1)
        have k3 := k2.alloc (by have := k2.size; exact this) (.cells (walkCells tb T.length cap 1) 126)
        have hs2 := k2.size
        have k4 := k3.trans (hk3.toBelow (B := w.heap.size) (by simp; omega) hs2)
        exact ⟨k4.os, k4.tape, k4.output, k4.size, k4.block⟩
      · have hcb : (((programP T ⟨0, 0, 0⟩).2.code : Int) != 0) = true := by simp; omega
        have HA : Hid (checkP s.data.toList = ((programP T ⟨0, 0, 0⟩).2.code, (programP T ⟨0, 0, 0⟩).2.at_)) := by
          show _ = _
          unfold checkP
          rw [if_neg (by omega), hlex]
          simp only
          rw [if_neg hc]
        generalize (programP T ⟨0, 0, 0⟩).2 = rP at *
        clear hPr eN eM hTk hlex hbig hlen hTl hP1 hc
        go_enter Tryz.func39, Tryz.ntmps39
        go_wp2_with (first
          | (go_at_call 66; refine hT2.mono ?_; rintro e w1 ⟨tb, cap, rfl, hb1, htl1, htok1⟩; have HT1 : Hid (∀ j u, (toksRC T)[j]? = some u → w1.cell? ⟨tb, j, none⟩ = some u) := htok1; clear htok1)
          | (go_at_call 67; refine (hP0 w1 tb cap htl1 HT1.out).mono ?_; rintro e w2 ⟨rfl, m2, r2, hR2, hr2, hk2⟩; have hf2 := hR2.fault; have hp2 := hR2.place; rw [hr2.1] at hf2; rw [hr2.2] at hp2))
        go_quiet (fail)
        go_wp2
        go_ret2
        rw [HA.out]
        have hs1 := hb1.size
        refine ⟨rfl, ?_⟩
        have k1 : Below w.heap.size w (w1.alloc (.cells (walkCells tb T.length cap 0) 126)) := hb1.alloc hs1 _
        have k4 := k1.trans (hk2.toBelow (B := w.heap.size) (by simp; omega) hs1)
        exact ⟨k4.os, k4.tape, k4.output, k4.size, k4.block⟩

end Go.Proofs.YtklobognaldjpaaGreat
