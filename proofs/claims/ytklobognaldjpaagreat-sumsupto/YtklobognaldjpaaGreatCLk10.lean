/- The program's look at names: a routine. -/
import Derived.Test.YtklobognaldjpaaGreatCLk9
import Derived.Deep.CutRange
namespace Go.Proofs.YtklobognaldjpaaGreat
open Go.RowKit

section
variable {lb gm ng nl : Nat} {lm : Option Nat} {w w' : World} {c : Nat × Nat} {L : PEnv} {E : Env} {Q : Nat → Prop}

set_option maxRecDepth 100000 in
set_option maxHeartbeats 4000000 in
theorem lroutine_any (h : Top lb gm ng w c L E) (hng : ng + 1 < maxLen) (kind : Nat) (r : Ro) {vp vl vb : Value} {vs : List Value} (hp : SliceN Q w vp r.params) (hl : SliceN Q w vl r.locals) (hb : SliceV Q w vb vs) (hA : SAll Q w vs r.body)
    (hQ : ∀ b, Q b → b ≠ lb ∧ b ≠ gm) (hO : OkRo r) (hlen : r.params.length + r.locals.length ≤ 601) (res : ByteArray) (hres : res = if kind = 3 then r.name.1 else ⟨#[]⟩) :
    Calls Tryz.prog 149 #[.pointer (some ⟨lb, 0, none⟩), .agg #[.string r.name.1, .int .i64 r.name.2, vp, vl, vb], .int .i64 ((kind + 1 : Nat) : Int), .string res] w (GPost lb gm ng (lookRo E kind r) c w) := by
  have hlt := h.pl.lt
  have hgl := h.pl.gl
  have hgt := h.pl.gmap.lt
  have hn : r.name.1.size ≤ maxLen := by have := hO.name.2; unfold maxLen; omega
  obtain ⟨pa, pc, rfl⟩ := hp.len
  obtain ⟨la, lc, rfl⟩ := hl.len
  obtain ⟨ba, bc, rfl⟩ := hb.len
  have k1 : ∀ A, Below w.heap.size w (w.alloc A) := fun A => (Below.refl _ _).alloc (Nat.le_refl _) _
  have hD : ∀ A, Calls Tryz.prog 147 #[.pointer (some ⟨lb, 0, none⟩), .map (some gm), .agg #[.string r.name.1, .int .i64 r.name.2], symV (kind + 1, r.params.length)] (w.alloc A).drew (DPost lb gm (ng + 1) 0 none L.res gm (declF E false r.name.1 r.name.2 kind r.params.length) c (w.alloc A).drew) := fun A =>
    decl_glob (h.pl.below (k1 A).drew) (by rw [noRes_id h.res]; exact h.rep) h.ins (by omega) hn _ _ _ (fun _ => h.l)
  unfold symV at hD
  have HP : Hid (SliceN Q w (.slice pa r.params.length pc) r.params) := hp
  have HL : Hid (SliceN Q w (.slice la r.locals.length lc) r.locals) := hl
  have HB : Hid (SliceV Q w (.slice ba vs.length bc) vs) := hb
  have HE : Hid (Top lb gm ng w c L E) := h
  have HO : Hid (OkRo r) := hO
  have HA : Hid (SAll Q w vs r.body) := hA
  have hcg : ∀ A, (w.alloc A).cell? ⟨lb, 2, none⟩ = some (.map (some gm)) := fun A => (h.pl.below (k1 A)).gl
  have HR : Hid (res = if kind = 3 then r.name.1 else ⟨#[]⟩) := hres
  clear hp hl hb h hO hA hres
  generalize hc1 : declF E false r.name.1 r.name.2 kind r.params.length = d1 at *
  have HZ : Hid (∀ w1 c1 L1, PL lb gm (ng + 1) 0 none w1 c1 L1 → 4 < r.params.length → Calls Tryz.prog 148 #[.pointer (some ⟨lb, 0, none⟩), .int .i64 7, .int .i64 r.name.2] w1.drew fun e w' => e = .returned (.tuple #[]) ∧ PL lb gm (ng + 1) 0 none w' (tellF (manyF r.params.length r.name.2) c1) L1 ∧ Par lb w1.drew w') := fun w1 c1 L1 h1 h2 => by
    have e : manyF r.params.length r.name.2 = some (7, r.name.2) := by unfold manyF; rw [if_pos h2]
    rw [e]; exact ltell_any (h1.below (Below.refl _ _).drew) 7 r.name.2
  have HZ0 : Hid (¬ 4 < r.params.length → manyF r.params.length r.name.2 = none) := fun h2 => by unfold manyF; rw [if_neg h2]
  generalize hK : ((kind + 1 : Nat) : Int) = K at *
  go_enter Tryz.func149, Tryz.ntmps149
  go_upto_region 1 with fail
  go_cut [] from 12 to 24 (fun wx => ∃ L2 A, A = .cells #[.string r.name.1, .int .i64 r.name.2, .slice pa r.params.length pc, .slice la r.locals.length lc, .slice ba vs.length bc] 218 ∧ PL lb gm (ng + 1) 0 none wx (tellF d1.2 c) L2 ∧ ((tellF d1.2 c).1 = 0 → Rep (noRes L2) d1.1) ∧ L2.res = L.res ∧ L2.l = (fun _ => (0, 0)) ∧ Fr (fun b => b = lb ∨ b = gm) (w.alloc A) wx)
  case first =>
    --F1
    go_region_with (go_at_call 147; refine (hD _).mono ?_; rintro e w2 ⟨rfl, L2, hP2, hr2, hres2, hF2, hl2⟩)
    all_goals (go_wp2_with fail; go_meet; exact ⟨L2, _, rfl, hP2, hr2, hres2, hl2 trivial, (Fr.of_below (Below.refl _ _).drew).trans hF2⟩)
    --F2
  case rest =>
    obtain ⟨L2, A, hA, hP2, hr2, hres2, hl2, hF2⟩ := hcut
    generalize hc1' : tellF d1.2 c = c1 at *
    have hl2t := hP2.lt
    have q0 : ∀ o, (w.alloc A).cell? ⟨w.heap.size, o, none⟩ = #[Value.string r.name.1, .int .i64 r.name.2, .slice pa r.params.length pc, .slice la r.locals.length lc, .slice ba vs.length bc][o]? := fun o => by rw [hA]; exact World.cell?_alloc_new w _ _ o
    have q : ∀ {wx : World}, Fr (fun b => b = lb ∨ b = gm ∨ (w.alloc A).heap.size ≤ b) (w.alloc A) wx → ∀ o, wx.cell? ⟨w.heap.size, o, none⟩ = #[Value.string r.name.1, .int .i64 r.name.2, .slice pa r.params.length pc, .slice la r.locals.length lc, .slice ba vs.length bc][o]? := fun {wx} hF o => by
      rw [hF.cell (by simp) (by simp; omega), q0]
    have hF2' : Fr (fun b => b = lb ∨ b = gm ∨ (w.alloc A).heap.size ≤ b) (w.alloc A) wc := hF2.weak (fun k _ hk => hk.elim .inl (fun h => .inr (.inl h)))
    have q1 := q hF2' 1
    have q2 := q hF2' 2
    clear hA hD
    go_upto_if 28 with fail
    go_cut [] from 25 to 35 (fun wx => PL lb gm (ng + 1) 0 none wx (tellF (manyF r.params.length r.name.2) c1) L2 ∧ Fr (fun b => b = lb ∨ b = gm ∨ (w.alloc A).heap.size ≤ b) (w.alloc A) wx)
    case first =>
      by_cases hz : 4 < r.params.length
      · have hzb : decide ((4 : Int) < (r.params.length : Int)) = true := by simp; omega
        have hT := HZ.out wc c1 L2 hP2 hz
        --F1
        go_wp2_with fail
        go_region_with (go_at_call 148; refine hT.mono ?_; rintro e w3 ⟨rfl, hP3, hk3⟩)
        all_goals (go_wp2_with fail; go_meet; exact ⟨hP3, (hF2'.trans (Fr.of_below (Below.refl _ _).drew)).trans (Fr.of_par hk3 (.inl rfl))⟩)
        --F2
      · have hzb : decide ((4 : Int) < (r.params.length : Int)) = false := by simp; omega
        go_wp2_with fail
        go_meet
        exact ⟨by rw [HZ0.out hz, tellF_none]; exact hP2, hF2'⟩
    case rest =>
      obtain ⟨hP3, hF3⟩ := hcut
      generalize hc2 : tellF (manyF r.params.length r.name.2) c1 = c2 at *
      have hl3 := hP3.lt
      have hlo := hP3.lo
      have hrs := hP3.rs
      have hf3 := hP3.frz 3
      have hf4 := hP3.frz 4
      have q32 := q hF3 2
      have hrb : w.heap.size < wc.heap.size := Nat.lt_of_lt_of_le (by simp) hF3.size
      have hP4 := hP3.enter res
      have hmk := fun W => run_makeMap (P := Tryz.prog) 201 W
      clear hF2' q1 q2 q0 hF2 hP2
      go_wp2
      rw [World.setCell_alloc_past _ _ _ _ hl3, World.setCell_alloc_past _ _ _ _ (by simpa using hl3)] at hP4
      have hF4 : Fr (fun b => b = lb ∨ b = gm ∨ (w.alloc A).heap.size ≤ b) (w.alloc A) (((wc.setCell ⟨lb, 3, none⟩ (.map (some wc.heap.size))).setCell ⟨lb, 4, none⟩ (.string res)).alloc (.map #[] 0)) := hF3.trans (Fr.of_par ((((Par.refl lb wc).setCell 3 _).setCell 4 _).alloc _) (.inl rfl))
      have hmb : (w.alloc A).heap.size ≤ wc.heap.size := hF3.size
      have hr4 : c2.1 = 0 → Rep (noRes ⟨L2.g, fun _ => (0, 0), res⟩) d1.1 := fun h0 => by
        rw [← hc2] at h0
        exact rep_start (hr2 (tell_none_of (nz_manyF _ _) h0).1) (by rw [← hc1]; exact (declF_here _ _ _ _ _).trans HE.out.here)
      have HR4 : Hid (c2.1 = 0 → Rep (noRes ⟨L2.g, fun _ => (0, 0), res⟩) d1.1) := hr4
      clear hr4 hr2 hF3 hP3 q32 hlo hrs hf3 hf4 hmk
      generalize hmbe : wc.heap.size = mb at *
      go_loopw [9, 47] (fun _ i wr => ∃ (j : Nat) (L' : PEnv), i = .int .i64 j ∧ j ≤ r.params.length ∧ PL lb gm (ng + 1) j (some mb) wr (tellF (lookNames d1.1 (r.params.take j)).2 c2) L' ∧ Hid ((tellF (lookNames d1.1 (r.params.take j)).2 c2).1 = 0 → Rep (noRes L') (lookNames d1.1 (r.params.take j)).1) ∧ L'.res = res ∧ Fr (fun b => b = lb ∨ b = gm ∨ (w.alloc A).heap.size ≤ b) (w.alloc A) wr) (fun _ i _ => r.params.length - (intOf i).toNat)
      case atStart => exact ⟨0, _, rfl, Nat.zero_le _, by rw [List.take_zero, lookNames, tellF_none]; exact hP4, by rw [List.take_zero, lookNames, tellF_none]; exact HR4, rfl, hF4⟩
      case round =>
        obtain ⟨j, L', rfl, hj, hP, hrj, hresj, hFj⟩ := hrel
        by_cases hlt2 : j < r.params.length
        · obtain ⟨b, cap, hv, hqb, hbl, hx0, hx1⟩ := HP.out.at hlt2
          injection hv with hv1 hv2 hv3
          subst hv1 hv3
          clear hv2
          have hfr : ∀ o, wr.cell? ⟨b, o, none⟩ = w.cell? ⟨b, o, none⟩ := fun o => by
            rw [hFj.cell (by simp; omega) (by have := hQ b hqb; simp; omega), World.cell?_alloc_lt _ _ _ hbl]
          rw [← hfr] at hx0 hx1
          have hcl3 : ∀ X, (wr.alloc X).cell? ⟨lb, 3, none⟩ = some (.map (some mb)) := fun X => (hP.below ((Below.refl _ _).alloc (Nat.le_refl _) X)).lo
          have hwl := hP.lt
          have hDh := fun X => names_step hP hrj.out (by unfold maxLen; omega) (List.getElem?_eq_getElem hlt2) (by have := (HO.out.params _ (List.getElem_mem hlt2)).2; unfold maxLen; omega) (W := (wr.alloc X).drew) ((Below.refl _ _).alloc (Nat.le_refl _) X).drew
          unfold symV at hDh
          have hws : (w.alloc A).heap.size ≤ wr.heap.size := hFj.size
          clear hrj hP hfr
          generalize r.params[j] = x at *
          go_wp2
          go_region_with (go_at_call 147; refine (hDh _).mono ?_; rintro e w6 ⟨rfl, L6, hP6, hr6, hres6, hF6⟩)
          --F1
          all_goals go_wp2_with fail
          all_goals go_roundw
          all_goals first
            | exact ⟨j + 1, L6, by go_num, by omega, hP6, hr6, hres6.trans hresj, (hFj.trans (Fr.of_below ((Below.refl _ _).alloc (Nat.le_refl _) _).drew)).trans (hF6.weak fun k _ hk => hk.elim .inl fun h => .inr (.inr (by omega)))⟩
            | (simp [intOf]; omega)
          --F2
        · have ej : j = r.params.length := by omega
          rw [ej, List.take_length] at hP hrj
          subst ej
          have hE2 : lookNames d1.1 r.params = lookNames d1.1 r.params := rfl
          generalize hE2' : lookNames d1.1 r.params = e2 at *
          clear hE2
          generalize hc3 : tellF e2.2 c2 = c3 at *
          have q33 := q hFj 3
          have hwl := hP.lt
          clear HR4 hF4 hP4 hj hlt2
          go_wp2
          go_loopw [11, 63] (fun _ i wr => ∃ (j : Nat) (L' : PEnv), i = .int .i64 j ∧ j ≤ r.locals.length ∧ PL lb gm (ng + 1) (r.params.length + j) (some mb) wr (tellF (lookNames e2.1 (r.locals.take j)).2 c3) L' ∧ Hid ((tellF (lookNames e2.1 (r.locals.take j)).2 c3).1 = 0 → Rep (noRes L') (lookNames e2.1 (r.locals.take j)).1) ∧ L'.res = res ∧ Fr (fun b => b = lb ∨ b = gm ∨ (w.alloc A).heap.size ≤ b) (w.alloc A) wr) (fun _ i _ => r.locals.length - (intOf i).toNat)
          case atStart => exact ⟨0, L', rfl, Nat.zero_le _, by rw [List.take_zero, lookNames, tellF_none]; exact hP, by rw [List.take_zero, lookNames, tellF_none]; exact hrj, hresj, hFj⟩
          case round =>
            clear hP hrj hresj hFj q33 hwl
            obtain ⟨j, L', rfl, hj, hP, hrj, hresj, hFj⟩ := hrel
            by_cases hlt2 : j < r.locals.length
            · obtain ⟨b, cap, hv, hqb, hbl, hx0, hx1⟩ := HL.out.at hlt2
              injection hv with hv1 hv2 hv3
              subst hv1 hv3
              clear hv2
              have hfr : ∀ o, wr.cell? ⟨b, o, none⟩ = w.cell? ⟨b, o, none⟩ := fun o => by
                rw [hFj.cell (by simp; omega) (by have := hQ b hqb; simp; omega), World.cell?_alloc_lt _ _ _ hbl]
              rw [← hfr] at hx0 hx1
              have hcl3 : ∀ X, (wr.alloc X).cell? ⟨lb, 3, none⟩ = some (.map (some mb)) := fun X => (hP.below ((Below.refl _ _).alloc (Nat.le_refl _) X)).lo
              have hwl := hP.lt
              have hDh := fun X => names_step hP hrj.out (by unfold maxLen; omega) (List.getElem?_eq_getElem hlt2) (by have := (HO.out.locals _ (List.getElem_mem hlt2)).2; unfold maxLen; omega) (W := (wr.alloc X).drew) ((Below.refl _ _).alloc (Nat.le_refl _) X).drew
              unfold symV at hDh
              have hws : (w.alloc A).heap.size ≤ wr.heap.size := hFj.size
              clear hrj hP hfr
              generalize r.locals[j] = x at *
              --F1
              go_wp2
              go_region_with (go_at_call 147; refine (hDh _).mono ?_; rintro e w6 ⟨rfl, L6, hP6, hr6, hres6, hF6⟩)
              all_goals go_wp2_with fail
              all_goals go_roundw
              all_goals first
                | exact ⟨j + 1, L6, by go_num, by omega, hP6, hr6, hres6.trans hresj, (hFj.trans (Fr.of_below ((Below.refl _ _).alloc (Nat.le_refl _) _).drew)).trans (hF6.weak fun k _ hk => hk.elim .inl fun h => .inr (.inr (by omega)))⟩
                | (simp [intOf]; omega)
              --F2
            · have ej : j = r.locals.length := by omega
              rw [ej, List.take_length] at hP hrj
              subst ej
              generalize hE3 : lookNames e2.1 r.locals = e3 at *
              generalize hc4 : tellF e3.2 c3 = c4 at *
              have q44 := q hFj 4
              have hwl := hP.lt
              have KQ : KeepQ Q w wr := ⟨Nat.le_trans (k1 A).size hFj.size, fun b hb hl => (hFj.block b (by simp; omega) (by have := hQ b hb; simp; omega)).trans ((k1 A).block b hl)⟩
              have HREP : Hid (c4.1 = 0 → Rep L' e3.1.enter) := fun h0 => by
                have h4 := hrj.out h0
                rw [← hc4, ← hE3] at h0
                have t3 := tell_none_of (nz_lookNames _ _) h0
                have h03 := t3.1
                rw [← hc3, ← hE2'] at h03
                have t2 := tell_none_of (nz_lookNames _ _) h03
                have h02 := t2.1
                rw [← hc2] at h02
                have t1 := tell_none_of (nz_manyF _ _) h02
                have h01 := t1.1
                rw [← hc1', ← hc1] at h01
                have t0 := tell_none_of (nz_declF _ _ _ _ _ _) h01
                have eg := declF_glob t0.2
                refine rep_enter h4 hresj (l := E.glob) (y := ⟨r.name.1, kind, r.params.length⟩) ?_ HR.out
                rw [← hE3, lookNames_glob, ← hE2', lookNames_glob, ← hc1]
                exact eg
              have hLL := ll_any (E := e3.1.enter) r.body Q wr _ vs c4 hP HREP.out (HB.out.keep KQ) (HA.out.keep KQ) (fun b hb => (hQ b hb).1) HO.out.body.1 HO.out.body.2
              have HFIN : Hid (tellF (lookRo E kind r).2 c = tellF (lookSts e3.1.enter r.body) c4) := by
                show _ = _
                rw [lookRo_tell, hc1, hE2', hE3, hc1', hc2, hc3, hc4]
              have HLE : Hid ((lookRo E kind r).1 = e3.1.leave) := by
                show (lookNames (lookNames (declF E false r.name.1 r.name.2 kind r.params.length).1 r.params).1 r.locals).1.leave = _
                rw [hc1, hE2', hE3]
              have HRJ := hrj
              generalize hc5 : tellF (lookSts e3.1.enter r.body) c4 = c5 at *
              clear hrj
              go_wp2_with (go_at_call 121; refine hLL.mono ?_; rintro e w7 ⟨rfl, hP7, hk7⟩; have hlo7 := hP7.lo; have hrs7 := hP7.rs; have hf73 := hP7.frz 3; have hf74 := hP7.frz 4; have hl7 := hP7.lt)
              go_end0
              refine ⟨rfl, ⟨⟨L'.g, fun _ => (0, 0), ⟨#[]⟩⟩, ?_⟩, ?_⟩
              · rw [HFIN.out, HLE.out]
                refine ⟨hP7.leave, fun h0 => rep_leave (L2 := L') fun n => ?_, rfl, rfl, rfl, rfl⟩
                rw [← hc5] at h0
                exact (HRJ.out (tell_none_of (nz_lookSts _ _) h0).1).g n
              · have hf := (hFj.trans (Fr.of_par hk7 (.inl rfl))).trans (Fr.of_par (((Par.refl lb w7).setCell 3 (.map none)).setCell 4 (.string ⟨#[]⟩)) (.inl rfl))
                exact ((Fr.of_below (k1 A)).trans hf).weak fun k hk hs => hs.elim .inl fun h => h.elim .inr fun h => by simp at h; omega

end

end Go.Proofs.YtklobognaldjpaaGreat
