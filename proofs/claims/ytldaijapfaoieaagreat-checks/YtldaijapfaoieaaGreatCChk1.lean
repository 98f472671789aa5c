/- The program's Check. -/
import Derived.Test.YtldaijapfaoieaaGreatCLk13
import Derived.Test.YtldaijapfaoieaaGreatCScan5
import Derived.Test.YtldaijapfaoieaaGreatCDcl11
namespace Go.Proofs.YtldaijapfaoieaaGreat
open Go.RowKit

theorem mkTok_nm {l : List UInt8} {q : Nat} {x : TK × Nat × Nat} (hl : l.length ≤ 600) (hq : q < l.length) (h : lex1 (l.drop q) = .ok x) : NmOk (mkTok l q x).text := by
  have hp := lex1_pos (k := x.1) (n := x.2.1) (v := x.2.2) h
  have e : (mkTok l q x).text.toList = (l.drop q).take x.2.1 := by show (bs ((l.drop q).take x.2.1)).toList = _; rw [bsl]
  refine ⟨?_, ?_⟩
  · rw [e]
    intro h0
    have h1 : ((l.drop q).take x.2.1).length = 0 := by rw [h0]; rfl
    rw [List.length_take, List.length_drop] at h1
    omega
  · show (((l.drop q).take x.2.1).toArray).size ≤ 600
    simp; omega

theorem lexAt_nm (l : List UInt8) (hl : l.length ≤ 600) : ∀ (k q : Nat) (T : List Tok), l.length - q ≤ k → lexAt l q = .ok T → ∀ t ∈ T, t.kind = .name → NmOk t.text
  | 0, q, T, hk, h => by
    rw [lexAt_end (by omega)] at h
    cases h
    intro t ht hn
    simp at ht
    subst ht
    cases hn
  | k + 1, q, T, hk, h => by
    by_cases hq : q < l.length
    · cases hx : lex1 (l.drop q) with
      | error c => rw [lexAt_bad hq hx] at h; cases h
      | ok x =>
        rw [lexAt_ok hq hx] at h
        have hp := lex1_pos (k := x.1) (n := x.2.1) (v := x.2.2) hx
        have hg := gap_ge l (q + x.2.1)
        cases hr : lexAt l (gap l (q + x.2.1)) with
        | error e => rw [hr] at h; cases h
        | ok r =>
          rw [hr] at h
          cases h
          have ih := lexAt_nm l hl k (gap l (q + x.2.1)) r (by omega) hr
          intro t ht hn
          rcases List.mem_cons.1 ht with rfl | ht
          · exact mkTok_nm hl hq hx
          · exact ih t ht hn
    · rw [lexAt_end hq] at h
      cases h
      intro t ht hn
      simp at ht
      subst ht
      cases hn

set_option maxRecDepth 1000000 in
set_option maxHeartbeats 4000000 in
theorem progCheck (s : ByteArray) (w : World) :
    Calls Tryz.prog 5 #[.string s] w fun e w' => e = .returned (.tuple #[.int .i64 ((checkP s.data.toList).1 : Nat), .int .i64 ((checkP s.data.toList).2 : Nat)]) ∧ Below w.heap.size w w' := by
  have hlen : s.data.toList.length = s.size := len_toList s
  by_cases hbig : 600 < s.size
  · have HA : Hid (checkP s.data.toList = (1, 0)) := by show _ = _; unfold checkP; rw [if_pos (by omega)]
    have hb : (600 : Int) < (s.size : Int) := by omega
    clear hbig hlen
    go_enter Tryz.func5, Tryz.ntmps5
    go_wp2
    go_ret2
    rw [HA.out]
    exact ⟨rfl, Below.refl _ _⟩
  · have hb : ¬ (600 : Int) < (s.size : Int) := by omega
    have hTk := tokens_any s w (by omega)
    cases hlex : lexAll s.data.toList with
    | error x =>
      obtain ⟨c, q⟩ := x
      have HA : Hid (checkP s.data.toList = (c, q)) := by show _ = _; unfold checkP; rw [if_neg (by omega), hlex]
      have hT2 : Calls Tryz.prog 8 #[.string s] w fun e w' => e = .returned (.tuple #[.slice none 0 0, .int .i64 c, .int .i64 q]) ∧ Below w.heap.size w w' := by
        refine hTk.mono ?_
        rintro e w' ⟨hbl, ⟨c2, q2, hl, rfl⟩ | ⟨ts, v, hl, rfl, ho⟩⟩
        · rw [hlex] at hl; cases hl; exact ⟨rfl, hbl⟩
        · rw [hlex] at hl; cases hl
      have hc0 := lexAll_err hlex
      have hcb : ((c : Int) != 0) = true := by simp; omega
      clear hTk hlex hc0 hbig hlen
      go_enter Tryz.func5, Tryz.ntmps5
      go_wp2_with (go_at_call 8; refine hT2.mono ?_; rintro e w1 ⟨rfl, hb1⟩)
      go_ret2
      rw [HA.out]
      exact ⟨rfl, hb1⟩
    | ok T =>
      obtain ⟨hTl, hT⟩ := lexAt_len s.data.toList _ _ T (Nat.le_refl _) hlex
      have hT601 : T.length ≤ 601 := by omega
      have hpos := hT.pos
      have hN : NT T := ⟨hT601, lexAt_nm s.data.toList (by omega) _ _ T (Nat.le_refl _) hlex⟩
      have hT2 : Calls Tryz.prog 8 #[.string s] w fun e w' => ∃ tb cap, e = .returned (.tuple #[.slice (some ⟨tb, 0, none⟩) T.length cap, .int .i64 0, .int .i64 0]) ∧ Below w.heap.size w w' ∧ tb < w'.heap.size ∧ ∀ j u, (toksC T)[j]? = some u → w'.cell? ⟨tb, j, none⟩ = some u := by
        refine hTk.mono ?_
        rintro e w' ⟨hbl, ⟨c2, q2, hl, rfl⟩ | ⟨ts, v, hl, rfl, ho⟩⟩
        · rw [hlex] at hl; cases hl
        · rw [hlex] at hl
          cases hl
          obtain ⟨tb, cap, rfl, _, hlt⟩ := ho.form hpos
          refine ⟨tb, cap, rfl, hbl, hlt, fun j u hj => ?_⟩
          have hjl : j < (toksC T).length := (List.getElem?_eq_some_iff.1 hj).1
          rw [ho.cellAt j (by rw [ho.1] at hjl; exact hjl)]
          exact hj
      have hPr := fun (W : World) (tb cap : Nat) (htl : tb < W.heap.size) (htok : ∀ j u, (toksC T)[j]? = some u → W.cell? ⟨tb, j, none⟩ = some u) => parseProgram_any (cap := cap) hT hT601 htl htok
      unfold ProgPost at hPr
      by_cases hc : (programP T ⟨0, 0, 0⟩).2.code = 0
      · have hOk : PrOk T (programP T ⟨0, 0, 0⟩).1 := ok_program hT hN hpos rfl hc
        have HA : Hid (checkP s.data.toList = tellF (lookPr env0 (programP T ⟨0, 0, 0⟩).1) (0, 0)) := by
          show _ = _
          unfold checkP
          rw [if_neg (by omega), hlex]
          simp only
          rw [if_pos hc]
          cases lookPr env0 (programP T ⟨0, 0, 0⟩).1 <;> rfl
        have hP2 : ∀ (W : World) (tb cap : Nat), tb < W.heap.size → (∀ j u, (toksC T)[j]? = some u → W.cell? ⟨tb, j, none⟩ = some u) → Calls Tryz.prog 9 #[.slice (some ⟨tb, 0, none⟩) T.length cap] W fun e w' => Below W.heap.size W w' ∧ ∃ ga gn gc ba bn bc, e = .returned (.tuple #[.agg #[.slice ga gn gc, .slice ba bn bc], .int .i64 0, .int .i64 0]) ∧
            Hid (∀ A, Calls Tryz.prog 10 #[.agg #[.slice ga gn gc, .slice ba bn bc]] (w'.alloc A) (LookPost (programP T ⟨0, 0, 0⟩).1 (w'.alloc A))) := fun W tb cap h1 h2 => by
          refine (hPr W tb cap h1 h2).mono ?_
          rintro e w' ⟨hbl, ⟨hcn, _⟩ | ⟨_, vg, vb, gs, bs, rfl, a1, a2, a3, a4⟩⟩
          · exact absurd hc hcn
          · obtain ⟨ga, gc, rfl⟩ := a1.len
            obtain ⟨ba, bc, rfl⟩ := a3.len
            refine ⟨hbl, ga, _, gc, ba, _, bc, rfl, fun A => ?_⟩
            have kb : Below w'.heap.size w' (w'.alloc A) := (Below.refl _ _).alloc (Nat.le_refl _) _
            exact look_any hT601 (a1.keep (keepB kb)) (a2.keep (keepB kb)) (a3.keep (keepB kb)) (a4.keep (keepB kb)) hOk
        generalize (programP T ⟨0, 0, 0⟩).1 = p0 at *
        unfold LookPost at hP2
        generalize tellF (lookPr env0 p0) (0, 0) = c9 at *
        clear hPr hTk hlex hbig hlen hTl hc hOk hN
        go_enter Tryz.func5, Tryz.ntmps5
        go_wp2_with (first
          | (go_at_call 8; refine hT2.mono ?_; rintro e w1 ⟨tb, cap, rfl, hb1, htl1, htok1⟩; have HT1 : Hid (∀ j u, (toksC T)[j]? = some u → w1.cell? ⟨tb, j, none⟩ = some u) := htok1; clear htok1)
          | (go_at_call 9; refine (hP2 w1 tb cap htl1 HT1.out).mono ?_; rintro e w2 ⟨hb2, ga, gn, gc, ba, bn, bc, rfl, HLk⟩)
          | (go_at_call 10; refine (HLk.out _).mono ?_; rintro e w3 ⟨rfl, hb3⟩))
        go_ret2
        rw [HA.out]
        refine ⟨rfl, ?_⟩
        have k2 : Below w.heap.size w w2 := hb1.trans (hb2.mono hb1.size)
        have hs2 := k2.size
        exact (k2.alloc hs2 _).trans (hb3.mono (by simp; omega))
      · have hcb : (((programP T ⟨0, 0, 0⟩).2.code : Int) != 0) = true := by simp; omega
        have HA : Hid (checkP s.data.toList = ((programP T ⟨0, 0, 0⟩).2.code, (programP T ⟨0, 0, 0⟩).2.at_)) := by
          show _ = _
          unfold checkP
          rw [if_neg (by omega), hlex]
          simp only
          rw [if_neg hc]
        have hP2 : ∀ (W : World) (tb cap : Nat), tb < W.heap.size → (∀ j u, (toksC T)[j]? = some u → W.cell? ⟨tb, j, none⟩ = some u) → Calls Tryz.prog 9 #[.slice (some ⟨tb, 0, none⟩) T.length cap] W fun e w' => Below W.heap.size W w' ∧ e = .returned (.tuple #[.agg #[.slice none 0 0, .slice none 0 0], .int .i64 (programP T ⟨0, 0, 0⟩).2.code, .int .i64 (programP T ⟨0, 0, 0⟩).2.at_]) := fun W tb cap h1 h2 => by
          refine (hPr W tb cap h1 h2).mono ?_
          rintro e w' ⟨hbl, ⟨_, rfl⟩ | ⟨hcn, _⟩⟩
          · exact ⟨hbl, rfl⟩
          · exact absurd hcn hc
        generalize (programP T ⟨0, 0, 0⟩).2 = rP at *
        clear hPr hTk hlex hbig hlen hTl hc hN
        go_enter Tryz.func5, Tryz.ntmps5
        go_wp2_with (first
          | (go_at_call 8; refine hT2.mono ?_; rintro e w1 ⟨tb, cap, rfl, hb1, htl1, htok1⟩; have HT1 : Hid (∀ j u, (toksC T)[j]? = some u → w1.cell? ⟨tb, j, none⟩ = some u) := htok1; clear htok1)
          | (go_at_call 9; refine (hP2 w1 tb cap htl1 HT1.out).mono ?_; rintro e w2 ⟨hb2, rfl⟩))
        go_ret2
        rw [HA.out]
        refine ⟨rfl, ?_⟩
        have k2 : Below w.heap.size w w2 := hb1.trans (hb2.mono hb1.size)
        have hs2 := k2.size
        exact k2.alloc hs2 _

end Go.Proofs.YtldaijapfaoieaaGreat
