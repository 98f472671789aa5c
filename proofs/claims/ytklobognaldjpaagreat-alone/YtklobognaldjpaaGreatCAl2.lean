/- The law Alone: its contract. For all pupils and every slice, lecternkeep.Alone returns true: each job comes to what it would come to alone. No condition. -/
import Derived.Test.YtklobognaldjpaaGreatCSp1
set_option maxRecDepth 1000000
set_option maxHeartbeats 4000000
namespace Go.Proofs.YtklobognaldjpaaGreat
open Go.RowKit
structure CntAt (w : World) (ab : Nat) (l : List Nat) : Prop where
  c : ∀ j, j < 6 → w.cell? ⟨ab, j, none⟩ = some (.int .i64 ((l.count j : Nat) : Int))
  fz : ∀ j, w.frozen? ⟨ab, j, none⟩ = false
theorem CntAt.same {w w' : World} {ab : Nat} {l : List Nat} (h : CntAt w ab l) (hb : w'.heap[ab]? = w.heap[ab]?) : CntAt w' ab l :=
  ⟨fun j hj => by rw [World.cell?_of_block (w := w) hb]; exact h.c j hj, fun j => by rw [World.frozen?_of_block (w := w) hb]; exact h.fz j⟩
theorem CntAt.add {w : World} {ab : Nat} {l : List Nat} (h : CntAt w ab l) {x : Nat} (hx : x < 6) : CntAt (w.setCell ⟨ab, x, none⟩ (.int .i64 (((l.count x : Nat) : Int) + 1))) ab (l ++ [x]) := by
  refine ⟨fun j hj => ?_, fun j => by rw [World.frozen?_setCell]; exact h.fz j⟩
  rw [List.count_append]
  by_cases e : j = x
  · subst e
    rw [World.cell?_setCell_same _ _ _ (h.c j hj)]
    simp
  · rw [World.cell?_setCell_other _ _ _ _ (by intro e2; cases e2; exact e rfl), h.c j hj]
    have : List.count j [x] = 0 := by simp [List.count_cons]; omega
    rw [this, Nat.add_zero]
structure AlAt (w wr : World) (rb sl ab : Nat) (vj : Value) (ps : List Pup) (K : Nat) (l m : List Nat) (b : PRm) (Js : List JM) (v : Value) : Prop where
  rds : Rds sl K (pushAll ⟨[], []⟩ (ps.take 5)) b m
  good : PG (endsOf ps) b
  rep : RRep wr rb sl vj v Js b
  foot : ∀ x, RFoot rb vj v Js x → w.heap.size ≤ x ∧ x ≠ ab
  cnt : CntAt wr ab l
  ab1 : w.heap.size ≤ ab
  ab2 : ab < wr.heap.size
  bel : Below w.heap.size w wr
section
variable {w wr w' : World} {rb sl ab : Nat} {vj : Value} {ps : List Pup} {K : Nat} {l m : List Nat} {b : PRm} {Js : List JM} {v : Value}
theorem AlAt.num (h : AlAt w wr rb sl ab vj ps K l m b Js v) : PN (min ps.length 5) b m := by
  have hn0 := pushAll_pn (ps.take 5)
  have hl0 : (ps.take 5).length = min ps.length 5 := by rw [List.length_take]; omega
  rw [hl0] at hn0
  have := rds_pn h.rds hn0
  rwa [List.nil_append] at this
theorem AlAt.more (h : AlAt w wr rb sl ab vj ps K l m b Js v) {x : Nat} (hx : x < 6) : AlAt w (wr.setCell ⟨ab, x, none⟩ (.int .i64 (((l.count x : Nat) : Int) + 1))) rb sl ab vj ps K (l ++ [x]) m b Js v :=
  ⟨h.rds, h.good, ⟨h.rep.room.same (by simp [World.setCell]) fun k hk => Below.heap_setCell _ _ _ _ (h.foot k hk).2, h.rep.same⟩, h.foot, h.cnt.add hx, h.ab1, by simpa [World.setCell] using h.ab2, h.bel.setCell h.ab1 _⟩
theorem AlAt.tick (h : AlAt w wr rb sl ab vj ps K l l b Js v) (hsl : sl ≤ 1000) : Calls Tryz.prog 33 #[.pointer (some ⟨rb, 0, none⟩), .int .i64 500] wr fun e w' => ∃ (m : List Nat) (la : Option Addr) (lc : Nat), e = .returned (.tuple #[.slice la m.length lc, .int .i64 0]) ∧ m.length ≤ 500 ∧ (∃ b' Js' v', AlAt w w' rb sl ab vj ps (K + 500) l (l ++ m) b' Js' v') ∧ (m = [] ∨ ∃ tb, la = some ⟨tb, 0, none⟩ ∧ tb ≠ ab ∧ ∀ i, i < m.length → w'.cell? ⟨tb, i, none⟩ = some (.int .i64 ((m.getD i 0 : Nat) : Int))) := by
  refine (tick_any h.rep h.good hsl (k := 500) (Nat.le_refl _)).mono ?_
  rintro e w' ⟨b', m, Js', v', la, lc, h1, h2, rfl, h3, h4, h5, h6⟩
  refine ⟨m, la, lc, rfl, rds_len h1, ⟨b', Js', v', rds_add h.rds h1, h2, h5, fun x hx => ?_, h.cnt.same (h6.fr.block ab h.ab2 fun e => (h.foot ab e).2 rfl), h.ab1, Nat.lt_of_lt_of_le h.ab2 h6.fr.size, h.bel.trans (below_of_rm h6 (fun b hb => (h.foot b hb).1) h.bel.size)⟩, ?_⟩
  · rcases h6.nw x hx with e | e
    · exact h.foot x e
    · have := h.ab2; have := h.bel.size; exact ⟨by omega, by omega⟩
  · by_cases h0 : m = []
    · exact .inl h0
    · obtain ⟨tb, cap2, e, hb, hlt⟩ := h3.form (List.length_pos_iff.2 h0)
      cases e
      refine .inr ⟨tb, rfl, by have := h.ab2; omega, fun i hi => ?_⟩
      have := h3.cellAt i (by simpa using hi)
      rw [this, List.getElem?_map, List.getElem?_eq_getElem hi]
      simp [List.getD, hi]
end
theorem pup_run (p : Pup) {W : World} {base : Nat} {oa : Option Addr} {oc : Nat} (ho : W.ownsRow base 3 1 (.slice oa p.inp.length oc) p.inp.length ((p.inp.map wrapV).map (.int .i64))) (hl : p.inp.length ≤ 17592186044416) :
    Calls Tryz.prog 19 #[.string ⟨(txtOf p.raw).toArray⟩, .slice oa p.inp.length oc, .int .i64 (p.f : Nat)] W fun e w' => Below W.heap.size W w' ∧ ∃ ra rc, e = .returned (.tuple #[.agg #[.int .i64 (p.out.1 : Nat), .slice ra p.out.2.1.length rc, .int .i64 (p.out.2.2 : Nat)], .int .i64 0, .int .i64 0]) ∧ Hid (OutAt w' (.agg #[.int .i64 (p.out.1 : Nat), .slice ra p.out.2.1.length rc, .int .i64 (p.out.2.2 : Nat)]) p.out) := by
  have hf := pup_f p
  exact run_is (by rw [pup_check]) (by rw [Int.toNat_natCast]; rfl) (by omega) (ok_wrap _) (row_ints ho (by simp) (by unfold maxLen; omega) (ok_wrap _)) (by simp; omega)
theorem told_out {J : JM} {o : Nat × List Int × Nat} (h1 : J.m.over = some o.1) (h2 : J.m.out = o.2.1) (h3 : J.m.used = o.2.2) : J.told = o := by
  unfold JM.told
  rw [h1, h2, h3]
  rfl
theorem PupAt.under {w W : World} {v : Value} {ps : List Pup} (h : PupAt w v ps) (hb : Below w.heap.size w W) : PupAt W v ps := by
  obtain ⟨a, cap, rfl, h3, h4⟩ := h
  refine ⟨a, cap, rfl, h3, ?_⟩
  rcases h4 with h4 | ⟨b, off, rfl, h5, h6⟩
  · exact .inl h4
  · refine .inr ⟨b, off, rfl, Nat.lt_of_lt_of_le h5 hb.size, fun i p hp => ?_⟩
    obtain ⟨g1, g2, vr, vi, g3, g4, g5, g6, g7⟩ := h6 i p hp
    exact ⟨g1, g2, vr, vi, by rw [hb.cell (p := ⟨b, off + i * 3, none⟩) h5]; exact g3, by rw [hb.cell (p := ⟨b, off + i * 3 + 1, none⟩) h5]; exact g4, by rw [hb.cell (p := ⟨b, off + i * 3 + 2, none⟩) h5]; exact g5, g6.under hb, g7.under hb⟩
theorem Alone_any (v : Value) (ps : List Pup) (slice : Int) (w : World) (h : PupAt w v ps) (h1 : -9223372036854775808 ≤ slice) (h2 : slice ≤ 9223372036854775807) :
    Calls Tryz.prog 10 #[v, .int .i64 slice] w fun e w' => e = .returned (.bool true) ∧ Below w.heap.size w w' := by
  have HRm : Hid (∀ W, Below w.heap.size w W → PupAt W v ps) := fun W hb => h.under hb
  have hR := fun W (hb : Below w.heap.size w W) => room_any v ps slice W (HRm.out W hb) h1 h2
  have hsl : slOf slice ≤ 1000 ∧ 1 ≤ slOf slice := by
    have h3 : (pickI slice 50).toNat < 50 := (pickI_lt slice (n := 50) (by omega)).1
    unfold slOf
    omega
  obtain ⟨a, cap, rfl, hpl, _⟩ := h
  generalize slOf slice = sl at *
  go_enter Tryz.func10, Tryz.ntmps10
  go_upto_region 7 with (first
    | (go_at_call 31; refine (turning_any _).mono ?_; rintro e wa ⟨rfl, hba⟩)
    | (go_at_call 32; refine (hR _ hba).mono ?_; rintro e w1 ⟨rb, Js, vj, vv, rfl, hrep, hfoot, hb1⟩))
  have emin : min (ps.length : Int) 5 = ((min ps.length 5 : Nat) : Int) := by omega
  rw [emin]
  obtain ⟨N, hN, hN5⟩ : ∃ N, min ps.length 5 = N ∧ N ≤ 5 := ⟨_, rfl, by omega⟩
  rw [hN]
  have hB1 : Below w.heap.size w w1 := hba.trans (hb1.mono hba.size)
  have HA0 : Hid (AlAt w (w1.alloc (.cells #[.int .i64 0, .int .i64 0, .int .i64 0, .int .i64 0, .int .i64 0, .int .i64 0] 63)) rb sl w1.heap.size vj ps 0 [] [] (pushAll ⟨[], []⟩ (ps.take 5)) Js vv) := by
    have hbl := (Below.refl w1.heap.size w1).alloc (Nat.le_refl _) (.cells #[.int .i64 0, .int .i64 0, .int .i64 0, .int .i64 0, .int .i64 0, .int .i64 0] 63)
    have hg0 : PG (endsOf ps) (pushAll ⟨[], []⟩ (ps.take 5)) := by
      by_cases h5 : 5 ≤ ps.length
      · exact pushAll_good ps 5 h5 (Nat.le_refl _)
      · have := pushAll_good ps ps.length (Nat.le_refl _) (by omega)
        rw [List.take_of_length_le (Nat.le_refl _)] at this
        rw [List.take_of_length_le (by omega)]
        exact this
    refine ⟨.zero _, hg0, hrep.below hbl, fun x hx => ⟨Nat.le_trans hba.size (hfoot x hx), by have := hrep.room.footlt hx; omega⟩, ⟨fun j hj => ?_, fun j => World.frozen?_alloc_new _ _ _ _⟩, hB1.size, by simp, hB1.trans (hbl.mono hB1.size)⟩
    rw [World.cell?_alloc_new]
    have : j = 0 ∨ j = 1 ∨ j = 2 ∨ j = 3 ∨ j = 4 ∨ j = 5 := by omega
    rcases this with rfl | rfl | rfl | rfl | rfl | rfl <;> rfl
  generalize w1.heap.size = ab at *
  clear hrep hfoot hb1 hba hR hB1
  generalize (w1.alloc (.cells #[.int .i64 0, .int .i64 0, .int .i64 0, .int .i64 0, .int .i64 0, .int .i64 0] 63)) = w2 at *
  go_wp2
  go_loopw [9] (fun t wr => ∃ (k : Nat) (l : List Nat) (b : PRm) (Js : List JM) (v : Value), t = .int .i64 k ∧ k ≤ 4 ∧ AlAt w wr rb sl ab vj ps (500 * k) l l b Js v) (fun t _ => 4 - (intOf t).toNat)
  case atStart => exact ⟨0, [], _, Js, vv, rfl, Nat.zero_le _, HA0.out⟩
  case round =>
    obtain ⟨k, l, b, Js, v, rfl, hk, hA⟩ := hrel
    by_cases hlt : k < 4
    · have hki : (k : Int) < 4 := by omega
      have hT := hA.tick hsl.1
      clear hA
      go_wp2_with (go_at_call 33; refine hT.mono ?_; rintro e w3 ⟨m, la, lc, rfl, hm5, ⟨b', Js', v', hA⟩, hcs⟩)
      go_loopw [12] (fun t wr => ∃ j : Nat, t = .int .i64 j ∧ j ≤ m.length ∧ AlAt w wr rb sl ab vj ps (500 * k + 500) (l ++ m.take j) (l ++ m) b' Js' v' ∧ (m = [] ∨ ∃ tb, la = some ⟨tb, 0, none⟩ ∧ tb ≠ ab ∧ ∀ i, i < m.length → wr.cell? ⟨tb, i, none⟩ = some (.int .i64 ((m.getD i 0 : Nat) : Int)))) (fun t _ => m.length - (intOf t).toNat)
      case atStart => exact ⟨0, rfl, Nat.zero_le _, by rw [List.take_zero, List.append_nil]; exact hA, hcs⟩
      case round =>
        obtain ⟨j, rfl, hj, hA2, hcs2⟩ := hrel
        by_cases hjl : j < m.length
        · have hji : (j : Int) < (m.length : Int) := by omega
          rcases hcs2 with h0 | ⟨tb, rfl, htb, hcs2⟩
          · rw [h0] at hjl; simp at hjl
          have hcj := hcs2 j hjl
          have hxm : m.getD j 0 ∈ l ++ m := by
            have e : m.getD j 0 = m[j] := by simp [List.getD, hjl]
            rw [e]; exact List.mem_append_right _ (List.getElem_mem hjl)
          have hrg := hA2.num.rng _ hxm
          rw [hN] at hrg
          have htk : l ++ m.take (j + 1) = (l ++ m.take j) ++ [m.getD j 0] := by
            rw [List.take_add_one, List.getElem?_eq_getElem hjl, List.append_assoc]
            simp [List.getD, hjl]
          generalize m.getD j 0 = x at *
          have hx6 : x < 6 := by omega
          have e1 : ¬ (x : Int) < 1 := by omega
          have e2 : ¬ (x : Int) > (N : Int) := by omega
          have e3 : (x : Int) < 6 := by omega
          have hcx := hA2.cnt.c x hx6
          have hfx := hA2.cnt.fz x
          have hct : (l ++ m.take j).count x ≤ 4000 := by
            have a1 := List.count_le_length (a := x) (l := l ++ m.take j)
            have a2 := rds_len hA2.rds
            rw [List.length_append] at a1 a2
            have a3 : (m.take j).length ≤ m.length := by rw [List.length_take]; omega
            omega
          have HX : Hid (AlAt w (wr.setCell ⟨ab, x, none⟩ (.int .i64 ((((l ++ m.take j).count x : Nat) : Int) + 1))) rb sl ab vj ps (500 * k + 500) (l ++ m.take (j + 1)) (l ++ m) b' Js' v') := by
            show AlAt _ _ _ _ _ _ _ _ _ _ _ _ _
            rw [htk]; exact hA2.more hx6
          have HC : Hid (∀ i, i < m.length → (wr.setCell ⟨ab, x, none⟩ (.int .i64 ((((l ++ m.take j).count x : Nat) : Int) + 1))).cell? ⟨tb, i, none⟩ = some (.int .i64 ((m.getD i 0 : Nat) : Int))) := fun i hi => by
            rw [World.cell?_setCell_other _ _ _ _ (by intro e; cases e; exact htb rfl)]; exact hcs2 i hi
          clear hA2 hcs2 htk hxm hA hcs
          generalize (l ++ m.take j).count x = cx at *
          go_wp2
          go_roundw
          case rel => exact ⟨j + 1, by go_num, by omega, HX.out, .inr ⟨tb, rfl, htb, HC.out⟩⟩
          case measure => simp [intOf]; omega
        · have hji : ¬ (j : Int) < (m.length : Int) := by omega
          have HX : Hid (AlAt w wr rb sl ab vj ps (500 * k + 500) (l ++ m) (l ++ m) b' Js' v') := by
            have := hA2
            rw [List.take_of_length_le (by omega)] at this
            exact this
          clear hA2 hcs2 hA hcs
          go_wp2
          go_roundw
          case rel => exact ⟨k + 1, l ++ m, b', Js', v', by go_num, by omega, by rw [show 500 * (k + 1) = 500 * k + 500 by omega]; exact HX.out⟩
          case measure => simp [intOf]; omega
    · have hki : ¬ (k : Int) < 4 := by omega
      have hk4 : k = 4 := by omega
      subst hk4
      have HE : Hid (PN (min ps.length 5) b l ∧ PG (endsOf ps) b ∧ ∀ i p, i < 5 → ps[i]? = some p → ∃ P, b.js[i]? = some P ∧ P.done = true ∧ l.count (i + 1) = 1) := all_end hsl.2 hA.rds
      have HA : Hid _ := hA
      clear hA HA0
      go_wp2
      generalize wr = wx at *
      go_loopw [13] (fun t wr => ∃ j : Nat, t = .int .i64 j ∧ j ≤ N ∧ Below wx.heap.size wx wr) (fun t _ => N - (intOf t).toNat)
      case atStart => exact ⟨0, rfl, Nat.zero_le _, Below.refl _ _⟩
      case round =>
        obtain ⟨j, rfl, hj, hB⟩ := hrel
        by_cases hlt : j < N
        · have hji : (j : Int) < (N : Int) := by omega
          have hjp : j < ps.length := by omega
          have hjpi : (j : Int) < (ps.length : Int) := by omega
          have hBw : Below w.heap.size w wr := HA.out.bel.trans (hB.mono HA.out.bel.size)
          obtain ⟨a2, cap2, e2, _, hcs⟩ := HRm.out wr hBw
          injection e2 with e3 _ e4
          subst e3
          subst e4
          rcases hcs with h0 | ⟨pb, off, rfl, hpb, hcs⟩
          · rw [h0] at hjp; simp at hjp
          obtain ⟨⟨f1, f2⟩, hil, vr, vi, d0, d1, d2, i1, i2⟩ := hcs j ps[j] (List.getElem?_eq_getElem hjp)
          obtain ⟨pf1, pf2⟩ := pup_f ps[j]
          have hT := taken_any vr vi (ps[j]).raw (ps[j]).inp (ps[j]).fuel wr i1 i2 hil f1 f2
          rw [pf1] at hT
          obtain ⟨P, hP, hPd, hPc⟩ := HE.out.2.2 j ps[j] (by omega) (List.getElem?_eq_getElem hjp)
          obtain ⟨o1, o2, o3⟩ := done_out HE.out.2.1 HE.out.1 (List.getElem?_eq_getElem hjp) hP hPd
          obtain ⟨J, hJ, hJP⟩ := HA.out.rep.at hP
          subst hJP
          have hJl : Js.length ≤ 5 := by
            have := HE.out.1.len
            rw [← HA.out.rep.same, List.length_map] at this
            omega
          have HJ : Hid (∀ W, Below wx.heap.size wx W → Calls Tryz.prog 35 #[.pointer (some ⟨rb, 0, none⟩), .int .i64 ((j : Int) + 1)] W fun e w' => ∃ ja jc, e = .returned (.tuple #[.agg #[.int .i64 ((ps[j]).out.1 : Nat), .slice ja (ps[j]).out.2.1.length jc, .int .i64 ((ps[j]).out.2.2 : Nat)], .int .i64 1, .int .i64 0]) ∧ Hid (OutAt w' (.agg #[.int .i64 ((ps[j]).out.1 : Nat), .slice ja (ps[j]).out.2.1.length jc, .int .i64 ((ps[j]).out.2.2 : Nat)]) (ps[j]).out) ∧ Below W.heap.size W w') := fun W hb => by
            refine (roomJob_any (HA.out.rep.room.below hb) hJl hJ).mono ?_
            rintro e w' ⟨ja, jc, rfl, _, hO, hb2⟩
            have hO2 := hO.out
            rw [told_out o1 o2 o3] at hO2
            have g1 : J.m.over = some (ps[j]).out.1 := o1
            have g2 : J.m.out = (ps[j]).out.2.1 := o2
            have g3 : J.m.used = (ps[j]).out.2.2 := o3
            have g4 : J.done = true := hPd
            rw [g1, g2, g3] at hO2
            refine ⟨ja, jc, ?_, hO2, hb2⟩
            rw [g1, g2, g3, g4]
            rfl
          have hcn := HA.out.cnt.c (j + 1) (by omega)
          rw [hPc] at hcn
          have hab := HA.out.ab2
          have HCn : Hid (∀ W, Below wx.heap.size wx W → W.cell? ⟨ab, j + 1, none⟩ = some (.int .i64 1)) := fun W hb => by
            rw [hb.cell (p := ⟨ab, j + 1, none⟩) hab]; exact hcn
          have HRu : Hid (∀ (W : World) (base : Nat) (oa : Option Addr) (oc : Nat), W.ownsRow base 3 1 (.slice oa (ps[j]).inp.length oc) (ps[j]).inp.length (((ps[j]).inp.map wrapV).map (.int .i64)) → Calls Tryz.prog 19 #[.string ⟨(txtOf (ps[j]).raw).toArray⟩, .slice oa (ps[j]).inp.length oc, .int .i64 ((ps[j]).f : Nat)] W fun e w' => Below W.heap.size W w' ∧ ∃ ra rc, e = .returned (.tuple #[.agg #[.int .i64 ((ps[j]).out.1 : Nat), .slice ra (ps[j]).out.2.1.length rc, .int .i64 ((ps[j]).out.2.2 : Nat)], .int .i64 0, .int .i64 0]) ∧ Hid (OutAt w' (.agg #[.int .i64 ((ps[j]).out.1 : Nat), .slice ra (ps[j]).out.2.1.length rc, .int .i64 ((ps[j]).out.2.2 : Nat)]) (ps[j]).out)) := fun W base oa oc ho => pup_run ps[j] ho hil
          clear hcs i1 i2 hP hPc o1 o2 o3 hJ hJl hcn pf1 f1 f2
          generalize (ps[j]).out = po at *
          obtain ⟨pc, pout, pu⟩ := po
          dsimp only at HJ HRu
          generalize txtOf (ps[j]).raw = tx at *
          generalize pout.length = pn at *
          go_wp2_with (first
            | (go_at_call 34; go_loud (refine hT.mono ?_; rintro e w2 ⟨oa, oc, rfl, ho2, hb2⟩; have hR2 := HRu.out w2 _ oa oc ho2; have hbx2 := hB.trans (hb2.mono hB.size)))
            | (go_at_call 19; go_loud (refine hR2.mono ?_; rintro e w3 ⟨hb3, ra, rc, rfl, HO3⟩; have hbx3 := hbx2.trans (hb3.mono hbx2.size); have hJ4 := HJ.out (w3.alloc (.cells #[.int .i64 (pc : Nat), .slice ra pn rc, .int .i64 (pu : Nat)] 39)) (hbx3.alloc hbx3.size _)))
            | (go_at_call 35; go_loud (refine hJ4.mono ?_; rintro e w4 ⟨ja, jc, rfl, HO4, hb4⟩; have q0 : w4.cell? ⟨w3.heap.size, 0, none⟩ = some (.int .i64 (pc : Nat)) := kept_one hb4 0; have q1 : w4.cell? ⟨w3.heap.size, 1, none⟩ = some (.slice ra pn rc) := kept_one hb4 1; have q2 : w4.cell? ⟨w3.heap.size, 2, none⟩ = some (.int .i64 (pu : Nat)) := kept_one hb4 2; have hlt34 : w3.heap.size < w4.heap.size := (by have := hb4.size; simp at this; omega); have hbx4 := hbx3.trans ((below_one hb4).mono hbx3.size)))
            | (go_at_call 26; go_loud (refine (same_eq (o := (pc, pout, pu)) (HO3.out.below ((below_one hb4).alloc (below_one hb4).size _)) (HO4.out.below ((Below.refl _ _).alloc (Nat.le_refl _) _))).mono ?_; rintro e w5 ⟨rfl, hb5⟩; have hbx5 := hbx4.trans ((below_one hb5).mono hbx4.size); have hc5 := HCn.out w5 hbx5)))
          go_roundw
          case rel => exact ⟨j + 1, by go_num, by omega, hbx5⟩
          case measure => simp [intOf]; omega
        · have hji : ¬ (j : Int) < (N : Int) := by omega
          have HB : Hid (Below w.heap.size w wr) := HA.out.bel.trans (hB.mono HA.out.bel.size)
          clear hB
          go_wp2
          go_ret
          exact ⟨rfl, HB.out⟩
open Go.ChangeShapes Go.WideShapes Go.ChangeAt
theorem row_lifted (os : Os) (started : os.Started) (H : Type) (enc : TypeId × Value → H) :
    ReturnsInHanded {} Tryz.checked os 10 .any (Rows.aloneSpec.pre6 enc Tryz.prog Tryz.f10 Rows.aloneRow.domain false) (Rows.aloneSpec.post enc Tryz.prog Tryz.f10 false true false false) := by
  refine returnsInHanded_of_change_sized (C := Tryz.checked) row_own started (by kernel_rfl) Tryz.func10
    (ChangeSpec.witness6 (enc := enc) (C := Tryz.checked) false ⟨#[], #[.slice none 0 0, .int .i64 0], []⟩ 8 (by kernel_rfl) (by kernel_rfl) (by kernel_rfl) (by kernel_rfl)) ?_
  intro W base args ds gs before hval0 hW hcnd hsz0 _
  have hsz : (DataW.weightsEach Tryz.prog (Tryz.f10.params.toList ++ Rows.aloneSpec.plain.varTypes Tryz.prog) (ds ++ gs)).all (· ≤ reachBytes) = true := hsz0
  clear hsz0
  have hval : ∀ (j : Nat) t v, Tryz.f10.params[j]? = some t → args[j]? = some v → Value.okWide Tryz.prog W .any base t v := hval0
  have hW' := hW
  obtain ⟨p, q, hA0, hV, rfl, hfz, hnd⟩ := hW
  have hA : DataW.TrodAll enc Tryz.prog W 0 (fun _ => true) true Tryz.f10.params.toList args.toList ds p := hA0
  rw [Tryz.params10] at hA hval hsz
  obtain ⟨v0, vs0, d0, ds0, p0, q0, hargs, rfl, rfl, h0, r0⟩ := trodAll_cons hA
  obtain ⟨v1, vs1, d1, ds1, p1, q1, rfl, rfl, rfl, h1, r1⟩ := trodAll_cons r0
  obtain ⟨rfl, rfl, rfl⟩ := trodAll_nil r1
  obtain rfl : args = #[v0, v1] := by cases args; simp_all
  obtain ⟨rfl, rfl⟩ := trodVars_none hV
  obtain ⟨a0, len0, cap0, rfl⟩ := okWide_slice Tryz.underlying60 (hval 0 60 v0 rfl rfl)
  have lt0 : ∀ x ∈ p0, x.block < W.heap.size := by obtain ⟨m, hm⟩ := h0; exact DataW.trod_lt m _ _ _ hm
  obtain ⟨ps, i0⟩ := pups_param h0 (pups_size (j := 0) hsz rfl rfl)
  obtain ⟨a1, rfl, rfl, rfl, w1⟩ := open_int Tryz.underlying3 (hval 1 3 v1 rfl rfl) h1
  clear hA0 hval0
  obtain ⟨g1, g2⟩ := bounds_i64 w1
  refine (Alone_any (.slice a0 len0 cap0) ps a1 W i0 g1 g2).mono fun e W' ⟨he, bel⟩ => ?_
  subst he
  exact ⟨_, rfl, _, _, _, [], _, [], hW', trodAll_mk1 (shut_bool Tryz.underlying4 _), (trodAll_cons_mk (Below.trod row_laidOut (by kernel_rfl) (of_decide_eq_true (by kernel_rfl)) h0 bel lt0) (trodAll_cons_mk (shut_int Tryz.underlying3 w1) trodAll_mk0)), rfl, bel.frame _, fun h => by cases h⟩
theorem row_over : Rows.aloneRow.holds Tryz.pinned (OpenSpec.ofChange Rows.aloneSpec) :=
  OpenClaim.holds_of_wide 10 Tryz.f10 rfl rfl rfl rfl rfl rfl rfl ⟨rfl, rfl, rfl, rfl, rfl⟩ rfl rfl rfl rfl rfl (by kernel_rfl) Tryz.func10 (by kernel_rfl)
    (of_decide_eq_true (by kernel_rfl)) (by unfold Func.isWrapper; first | (rw [if_pos (by decide +kernel)]; kernel_rfl) | (rw [if_neg (by decide +kernel)]; exact ⟨rfl, rfl⟩))
    (fun os started H enc _ => row_lifted os started H enc)
theorem alone_holds : Rows.AloneSaid :=
  row_over
#print axioms alone_holds
end Go.Proofs.YtklobognaldjpaaGreat
