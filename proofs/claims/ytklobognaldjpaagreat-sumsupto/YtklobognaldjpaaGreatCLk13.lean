/- The program's look at names, whole. -/
import Derived.Test.YtklobognaldjpaaGreatCLk12
import Derived.Test.YtklobognaldjpaaGreatCChkP
namespace Go.Proofs.YtklobognaldjpaaGreat
open Go.RowKit

section
variable {w w' : World} {Q : Nat → Prop}

theorem top0 (w : World) (A B : Array Value) (t : TypeId) (u : TypeId) (hB : B = #[.int .i64 0, .int .i64 0, .map (some (w.heap.size + 1)), .map none, .string ⟨#[]⟩]) :
    Top (w.heap.size + 2) (w.heap.size + 1) 0 (((w.alloc (.cells A t)).alloc (.map #[] 0)).alloc (.cells B u)) (0, 0) ⟨fun _ => (0, 0), fun _ => (0, 0), ⟨#[]⟩⟩ env0 := by
  have e1 : (w.alloc (.cells A t)).heap.size = w.heap.size + 1 := by simp
  have e2 : ((w.alloc (.cells A t)).alloc (.map #[] 0)).heap.size = w.heap.size + 2 := by simp
  have hc : ∀ o, (((w.alloc (.cells A t)).alloc (.map #[] 0)).alloc (.cells B u)).cell? ⟨w.heap.size + 2, o, none⟩ = B[o]? := fun o => by
    rw [← e2]; exact World.cell?_alloc_new _ B u o
  have hM : MapIs (((w.alloc (.cells A t)).alloc (.map #[] 0)).alloc (.cells B u)) (w.heap.size + 1) 0 (fun _ => (0, 0)) := by
    have h0 := mapIs_made (w.alloc (.cells A t))
    rw [e1] at h0
    exact h0.block (Below.heap_alloc _ _ _ (by rw [e2]; omega))
  refine ⟨⟨?_, ?_, ?_, ?_, ?_, ?_, hM, fun b hb => (by cases hb), fun _ _ => rfl, by omega, fun b hb => (by cases hb)⟩, fun _ => ⟨fun n => rfl, fun n => rfl, rfl, fun y hy => (by cases hy)⟩, rfl, rfl, rfl, rfl⟩
  · rw [hc, hB]; rfl
  · rw [hc, hB]; rfl
  · rw [hc, hB]; rfl
  · rw [hc, hB]; rfl
  · rw [hc, hB]; rfl
  · intro o
    rw [← e2]; exact World.frozen?_alloc_new _ B u o

/-- What looking at the names of a program does. -/
def LookPost (p : Pr) (w : World) (e : Ending) (w' : World) : Prop :=
  e = .returned (.tuple #[.int .i64 (tellF (lookPr env0 p) (0, 0)).1, .int .i64 (tellF (lookPr env0 p) (0, 0)).2]) ∧ Below w.heap.size w w'

set_option maxRecDepth 100000 in
set_option maxHeartbeats 2000000 in
theorem look_any {T : List Tok} (hT : T.length ≤ 601) {p : Pr} {vg vb : Value} {gs bs : List Value} (hg : SliceV Q w vg gs) (hG : GAll Q w gs p.globals) (hb : SliceV Q w vb bs) (hB : SAll Q w bs p.body) (hO : PrOk T p) :
    Calls Tryz.prog 87 #[.agg #[vg, vb]] w (LookPost p w) := by
  have hg' := hg.weak (Q' := fun b => b < w.heap.size) (fun b _ h => h)
  have hG' := hG.weak (Q' := fun b => b < w.heap.size) (fun b _ h => h)
  have hb' := hb.weak (Q' := fun b => b < w.heap.size) (fun b _ h => h)
  have hB' := hB.weak (Q' := fun b => b < w.heap.size) (fun b _ h => h)
  obtain ⟨ga, gc, rfl⟩ := hg.len
  obtain ⟨ba, bc, rfl⟩ := hb.len
  have hgl := hG.1
  have HGS : Hid (SliceV (fun b => b < w.heap.size) w (.slice ga gs.length gc) gs) := hg'
  have HGA : Hid (GAll (fun b => b < w.heap.size) w gs p.globals) := hG'
  have HBS : Hid (SliceV (fun b => b < w.heap.size) w (.slice ba bs.length bc) bs) := hb'
  have HBA : Hid (SAll (fun b => b < w.heap.size) w bs p.body) := hB'
  have HO : Hid (PrOk T p) := hO
  have hlen := hO.len
  have hmk := fun W => run_makeMap (P := Tryz.prog) 201 W
  clear hg hG hb hB hg' hG' hb' hB' hO
  rw [hgl]
  rw [hgl] at HGS
  go_enter Tryz.func87, Tryz.ntmps87
  go_wp2
  have hTop := top0 w #[.slice ga p.globals.length gc, .slice ba bs.length bc] #[.int .i64 0, .int .i64 0, .map (some (w.heap.size + 1)), .map none, .string ⟨#[]⟩] 117 203 rfl
  have k3 : Below w.heap.size w (((w.alloc (.cells #[.slice ga p.globals.length gc, .slice ba bs.length bc] 117)).alloc (.map #[] 0)).alloc (.cells #[.int .i64 0, .int .i64 0, .map (some (w.heap.size + 1)), .map none, .string ⟨#[]⟩] 203)) := (((Below.refl _ _).alloc (Nat.le_refl _) _).alloc (by simp) _).alloc (by simp; omega) _
  have hq0 : ∀ o, (((w.alloc (.cells #[.slice ga p.globals.length gc, .slice ba bs.length bc] 117)).alloc (.map #[] 0)).alloc (.cells #[.int .i64 0, .int .i64 0, .map (some (w.heap.size + 1)), .map none, .string ⟨#[]⟩] 203)).cell? ⟨w.heap.size, o, none⟩ = #[Value.slice ga p.globals.length gc, .slice ba bs.length bc][o]? := fun o => by
    rw [World.cell?_alloc_lt _ _ _ (by simp; omega), World.cell?_alloc_lt _ _ _ (by simp)]; exact World.cell?_alloc_new w _ _ o
  have hs3 : w.heap.size < (((w.alloc (.cells #[.slice ga p.globals.length gc, .slice ba bs.length bc] 117)).alloc (.map #[] 0)).alloc (.cells #[.int .i64 0, .int .i64 0, .map (some (w.heap.size + 1)), .map none, .string ⟨#[]⟩] 203)).heap.size := by simp; omega
  rw [show w.heap.size + 2 = w.heap.size + 1 + 1 from rfl] at hTop
  generalize (((w.alloc (.cells #[.slice ga p.globals.length gc, .slice ba bs.length bc] 117)).alloc (.map #[] 0)).alloc (.cells #[.int .i64 0, .int .i64 0, .map (some (w.heap.size + 1)), .map none, .string ⟨#[]⟩] 203)) = w3 at *
  have hlb0 : w.heap.size < w.heap.size + 1 + 1 := by omega
  have hgm0 : w.heap.size < w.heap.size + 1 := by omega
  generalize w.heap.size + 1 + 1 = lb at *
  generalize w.heap.size + 1 = gm at *
  have KQ : ∀ {wr : World}, Fr (fun b => b = lb ∨ b = gm) w3 wr → KeepQ (fun b => b < w.heap.size) w wr := fun {wr} hF => ⟨Nat.le_trans k3.size hF.size, fun b hb hl => (hF.block b (Nat.lt_of_lt_of_le hl k3.size) (by simp; omega)).trans (k3.block b hl)⟩
  have hqq : ∀ {wr : World}, Fr (fun b => b = lb ∨ b = gm) w3 wr → ∀ o, wr.cell? ⟨w.heap.size, o, none⟩ = #[Value.slice ga p.globals.length gc, .slice ba bs.length bc][o]? := fun {wr} hF o => by
    rw [hF.cell hs3 (by simp; omega)]; exact hq0 o
  clear hmk
  go_loopw [6, 13] (fun _ i wr => ∃ (j : Nat) (L' : PEnv), i = .int .i64 j ∧ j ≤ p.globals.length ∧ Top lb gm j wr (tellF (lookGls env0 (p.globals.take j)).2 (0, 0)) L' (lookGls env0 (p.globals.take j)).1 ∧ Fr (fun b => b = lb ∨ b = gm) w3 wr) (fun _ i _ => p.globals.length - (intOf i).toNat)
  case atStart => exact ⟨0, _, rfl, Nat.zero_le _, by rw [List.take_zero, lookGls, tellF_none]; exact hTop, Fr.refl _ _⟩
  case round =>
    obtain ⟨j, L', rfl, hj, hTj, hFj⟩ := hrel
    by_cases hlt2 : j < p.globals.length
    · have hjv : j < gs.length := by omega
      have HGS2 : Hid (SliceV (fun b => b < w.heap.size) w (.slice ga gs.length gc) gs) := by rw [hgl]; exact HGS
      obtain ⟨b, cap, hv, hqb, hbl, hcell⟩ := HGS2.out.at hjv
      injection hv with hv1 hv2 hv3
      subst hv1 hv3
      clear hv2 HGS2
      have hcw : wr.cell? ⟨b, j, none⟩ = some gs[j] := ((hFj.cell (Nat.lt_of_lt_of_le hbl k3.size) (by simp; omega) j).trans (k3.cell (p := ⟨b, j, none⟩) hbl)).trans hcell
      have he : p.globals[j]? = some p.globals[j] := List.getElem?_eq_getElem hlt2
      have hX := lg_any hTj (by unfold maxLen; omega) hT ((HGA.out.2 j _ _ (List.getElem?_eq_getElem hjv) he).keep (KQ hFj)) (fun b hb => by constructor <;> omega) (HO.out.globals _ (List.getElem_mem hlt2))
      have HS : Hid (∀ w' , (∃ L', Top lb gm (j + 1) w' (tellF (lookGl (lookGls env0 (p.globals.take j)).1 p.globals[j]).2 (tellF (lookGls env0 (p.globals.take j)).2 (0, 0))) L' (lookGl (lookGls env0 (p.globals.take j)).1 p.globals[j]).1) → ∃ L', Top lb gm (j + 1) w' (tellF (lookGls env0 (p.globals.take (j + 1))).2 (0, 0)) L' (lookGls env0 (p.globals.take (j + 1))).1) := fun w' h => by
        rw [tellF_or _ _ (nz_lookGls _ _)] at h
        rw [lookGls_take _ _ _ _ he]; exact h
      have hwl := hTj.pl.lt
      clear hcell hTj
      generalize gs[j] = vj at *
      go_wp2_with (go_at_call 120; refine hX.mono ?_; rintro e w5 ⟨rfl, hT5, hF5⟩)
      go_roundw
      case rel =>
        obtain ⟨L5, h5⟩ := HS.out _ hT5
        exact ⟨j + 1, L5, by go_num, by omega, h5, hFj.trans hF5⟩
      case measure => simp [intOf]; omega
    · have ej : j = p.globals.length := by omega
      rw [ej, List.take_length] at hTj
      subst ej
      have q1 := hqq hFj 1
      have hP := hTj.pl
      have hwl := hP.lt
      have hLL := ll_any p.body _ wr _ bs _ hP hTj.rep (HBS.out.keep (KQ hFj)) (HBA.out.keep (KQ hFj)) (fun b hb => by omega) HO.out.body.1 HO.out.body.2
      have HC : Hid (tellF (lookPr env0 p) (0, 0) = tellF (lookSts (lookGls env0 p.globals).1 p.body) (tellF (lookGls env0 p.globals).2 (0, 0))) := by
        show _ = _; unfold lookPr; rw [tellF_or _ _ (nz_lookGls _ _)]
      generalize hc9 : tellF (lookSts (lookGls env0 p.globals).1 p.body) (tellF (lookGls env0 p.globals).2 (0, 0)) = c9 at *
      clear hTop
      go_wp2_with (go_at_call 121; refine hLL.mono ?_; rintro e w7 ⟨rfl, hP7, hk7⟩; have hc7 := hP7.code; have ha7 := hP7.at_; have hl7 := hP7.lt)
      go_quiet (fail)
      go_wp2
      have hfin := hFj.trans (Fr.of_par hk7 (.inl rfl))
      have hbel : Below w.heap.size w w7 := ⟨hfin.os.trans k3.os, hfin.tape.trans k3.tape, hfin.output.trans k3.output, Nat.le_trans k3.size hfin.size, fun k hk => (hfin.block k (Nat.lt_of_lt_of_le hk k3.size) (by simp; omega)).trans (k3.block k hk)⟩
      refine bodyPost_ret (v := .tuple #[.int .i64 (c9.1 : Nat), .int .i64 (c9.2 : Nat)]) (by simp [results, Tryz.results87, go_sem]) rfl ⟨by rw [HC.out], hbel.trans (Below.drewN' _ _)⟩

end

end Go.Proofs.YtklobognaldjpaaGreat
