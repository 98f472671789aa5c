/- The program: a machine for a text, or what is wrong; a run. The program: Run. The program: Run, its contract. -/
import Derived.Test.YtklobognaldjpaaGreatCVo1
import Derived.Test.YtklobognaldjpaaGreatCCm19
import Derived.Test.YtklobognaldjpaaGreatCNw1
set_option maxRecDepth 1000000
set_option maxHeartbeats 4000000
namespace Go.Proofs.YtklobognaldjpaaGreat
open Go.RowKit
def PrepPost (l : List UInt8) (zs : List Int) (fuel : Int) (w : World) (e : Ending) (w' : World) : Prop :=
 Below w.heap.size w w' /\
 (((checkP l).1 ≠ 0 /\ e = .returned (.tuple #[.pointer none, .int .i64 ((checkP l).1 : Nat), .int .i64 ((checkP l).2 : Nat)])) ∨
  ((checkP l).1 = 0 /\ ¬ (0 <= fuel /\ fuel <= 3000) /\ e = .returned (.tuple #[.pointer none, .int .i64 8, .int .i64 0])) ∨
  ((checkP l).1 = 0 /\ (0 <= fuel /\ fuel <= 3000) /\ okIn zs = false /\ e = .returned (.tuple #[.pointer none, .int .i64 11, .int .i64 0])) ∨
  ((checkP l).1 = 0 /\ (0 <= fuel /\ fuel <= 3000) /\ okIn zs = true /\ ∃ xb wb wc vi, ∃ (R : MR) (Q : Nat -> Prop), w.heap.size <= xb /\ (∀ b, R.has b -> w.heap.size <= b) /\ (∀ b, Q b -> w.heap.size <= b) /\ e = .returned (.tuple #[.pointer (some ⟨xb, 0, none⟩), .int .i64 0, .int .i64 0]) /\
     MC xb wb wc (cPr (treeOf l)).1 Q w' (m0 (cPr (treeOf l)) zs) fuel.toNat 0 false R vi))
theorem IntsAt.under {w w' : World} {v : Value} {zs : List Int} (h : IntsAt w v zs) (hb : Below w.heap.size w w') : IntsAt w' v zs := by
 obtain ⟨a, cap, rfl, h1, h2, h3⟩ := h
 refine ⟨a, cap, rfl, h1, h2, ?_⟩
 rcases h3 with h3 | ⟨b, off, rfl, hl, h3⟩
 ·exact .inl h3
 ·refine .inr ⟨b, off, rfl, Nat.lt_of_lt_of_le hl hb.size, fun i hi => ?_⟩
  rw [hb.cell (p := ⟨b, off + i, none⟩) hl]
  exact h3 i hi
theorem InMem.below {w w' : World} {v : Value} {p : Pr} (h : InMem w v p) (hb : Below w.heap.size w w') : InMem w' v p := by
 obtain ⟨Q, h⟩ := h
 exact ⟨Q, h.keep (keepB hb)⟩
theorem rng_of_ok {zs : List Int} (h : okIn zs = true) : Rng zs := fun v hv => by
 unfold okIn at h
 rw [List.all_eq_true] at h
 simpa using h v hv
theorem inp_of {w : World} {base : Nat} {vi : Value} {zs : List Int} (h : w.ownsRow base 21 1 vi zs.length (zs.map (.int .i32))) {Q : Nat -> Prop} (hq : ∀ b, base <= b -> b < w.heap.size -> Q b) : InpV Q w vi zs := by
 rcases h.2 with ⟨e1, e2⟩ | ⟨g, cap, cur, hv, hg, hh, hn, hm, _⟩
 ·exact ⟨none, 0, by rw [e1, e2], by omega, Nat.zero_le _, .inl (List.eq_nil_of_length_eq_zero e2)⟩
 ·refine ⟨some ⟨g, 0, none⟩, cap, hv, hn, hm, .inr ⟨g, 0, rfl, hq g hg (Array.getElem?_eq_some_iff.1 hh).1, fun j x hj => ?_⟩⟩
  have hjl : j < zs.length := (List.getElem?_eq_some_iff.1 hj).1
  rw [hv] at h
  rw [Nat.zero_add, h.cellAt j (by omega), List.getElem?_map, hj]; rfl
theorem prepare_any (s : ByteArray) (v : Value) (zs : List Int) (fuel : Int) (w : World) (hin : IntsAt w v zs) (hl : zs.length <= 35184372088831) :
  Calls Tryz.prog 48 #[.string s, v, .int .i64 fuel] w (PrepPost s.data.toList zs fuel w) := by
 have HR := read_any s w
 unfold ReadPost at HR
 generalize hL : s.data.toList = l at *
 have HL : Hid (s.data.toList = l) := hL
 clear hL
 by_cases h0 : (checkP l).1 = 0
 ·obtain ⟨hP, hlen, T, hT1, hT2, hT3⟩ := passed_of h0
  obtain ⟨T2, hT601, hwh⟩ := hP.wh
  obtain ⟨hLe, hPl⟩ := bw_program hwh hT601 hP.look (by have := hP.len; omega)
  have hcode : (cPr (treeOf l)).1.length <= 1000000 := by have := hP.len; omega
  have hds : ∀ g ∈ (treeOf l).globals, DistG g := by
   have hk := hP.look
   unfold lookPr at hk
   exact dist_gls _ _ (or_none hk).1 rfl rfl
  have HC : Hid (∀ w1 ga gn gc ba bn bc, InMem w1 (.agg #[.slice ga gn gc, .slice ba bn bc]) (treeOf l) -> Calls Tryz.prog 72 #[.agg #[.slice ga gn gc, .slice ba bn bc]] w1 (CodePost (treeOf l) w1)) := by
   intro w1 ga gn gc ba bn bc him
   obtain ⟨Q, vg, vb, gs, bs, he, a1, a2, a3, a4⟩ := him
   injection he with he
   simp at he
   obtain ⟨rfl, rfl⟩ := he
   exact compile_any a1 a2 a3 a4 hwh hT601 hds hPl hcode
  have HT : Hid (∀ w' va, (∀ T, l.length <= 600 -> lexAll l = .ok T -> (programP T ⟨0, 0, 0⟩).2.code = 0 -> InMem w' va (programP T ⟨0, 0, 0⟩).1) -> InMem w' va (treeOf l)) := fun w' va hh => by rw [hT3]; exact hh T hlen hT1 hT2
  have hpc : (cPr (treeOf l)).2.2 <= 1000000 := by
   have := hPl _ (Nat.le_refl _)
   unfold cPr
   unfold cgAt at this
   rw [List.take_length] at this
   exact this
  have HPC : Hid ((cPr (treeOf l)).2.2 <= 1000000) := hpc
  have H0 : Hid ((checkP l).1 = 0) := h0
  rw [h0, show ((0 : Nat) : Int) = 0 from rfl] at HR
  have HI : Hid (IntsAt w v zs) := hin
  obtain ⟨va, vcap, hva, _⟩ := hin
  subst hva
  clear hP hT1 hT2 hT3 hwh hLe hPl hcode hds hlen hpc
  by_cases hf : 0 <= fuel /\ fuel <= 3000
  ·have f1 : ¬ fuel < 0 := by omega
   have f2 : ¬ fuel > 3000 := by omega
   have HV := fun w1 (hb : Below w.heap.size w w1) => valuesOf_any _ zs w1 (HI.out.under hb) hl
   unfold VoPost at HV
   obtain ⟨fn, rfl⟩ : ∃ fn : Nat, fuel = fn := ⟨fuel.toNat, by omega⟩
   by_cases hok : okIn zs = true
   ·have HV2 : ∀ w1, Below w.heap.size w w1 -> Calls Tryz.prog 70 #[.slice va zs.length vcap] w1 fun e w' => Below w1.heap.size w1 w' /\ ∃ ia ic, e = .returned (.tuple #[.slice ia zs.length ic, .bool true]) /\ Hid (w'.ownsRow w1.heap.size 21 1 (.slice ia zs.length ic) zs.length (zs.map (.int .i32))) := fun w1 hb => by
     refine (HV w1 hb).mono ?_
     rintro e w' ⟨hb2, ⟨_, vi, rfl, ho⟩ | ⟨hno, _⟩⟩
     ·obtain ⟨ia, ic, rfl⟩ := owned_slice ho
      exact ⟨hb2, ia, ic, rfl, ho⟩
     ·rw [hok] at hno; cases hno
    have HFin : Hid (∀ (w1 w3 w4 : World) (A : Obj) (wb wc : Nat) (ia : Option Addr) (ic : Nat), Below w.heap.size w w1 -> Below (w1.alloc A).heap.size (w1.alloc A) w3 -> Below w3.heap.size w3 w4 -> w3.ownsRow (w1.alloc A).heap.size 21 1 (.slice ia zs.length ic) zs.length (zs.map (.int .i32)) -> w3.heap.size <= wb -> wb < w4.heap.size -> (∀ j x, (cPr (treeOf l)).1[j]? = some x -> w4.cell? ⟨wb, j, none⟩ = some (.int .i64 (x : Nat))) ->
      Calls Tryz.prog 71 #[.agg #[.slice (some ⟨wb, 0, none⟩) (cPr (treeOf l)).1.length wc, .int .i64 ((cPr (treeOf l)).2.1 : Nat), .int .i64 ((cPr (treeOf l)).2.2 : Nat)], .slice ia zs.length ic, .int .i64 (fn : Nat)] w4 fun e w' => ∃ xb, e = .returned (.pointer (some ⟨xb, 0, none⟩)) /\ PrepPost l zs fn w (.returned (.tuple #[.pointer (some ⟨xb, 0, none⟩), .int .i64 0, .int .i64 0])) w') := by
     intro w1 w3 w4 A wb wc ia ic hb1 hb3 hb4 ho hw1 hw2 hwd
     have hs1 := hb1.size
     have hsA : (w1.alloc A).heap.size = w1.heap.size + 1 := by simp
     have hs3 := hb3.size
     have hs4 := hb4.size
     have hin4 : InpV (fun b => w.heap.size <= b /\ b < w4.heap.size) w4 (.slice ia zs.length ic) zs := inp_of (owns_below ho hb4) (fun b h1 h2 => ⟨by omega, h2⟩)
     refine (new_any (Q := fun b => w.heap.size <= b /\ b < w4.heap.size) (fun b hb => hb.2) ⟨by omega, hw2⟩ hwd hin4 (rng_of_ok hok) HPC.out).mono ?_
     rintro e w5 ⟨rfl, hb5, R, hR, hM⟩
     refine ⟨w4.heap.size + 2, rfl, ?_, .inr (.inr (.inr ⟨H0.out, hf, hok, w4.heap.size + 2, wb, wc, .slice ia zs.length ic, R, (fun b => w.heap.size <= b /\ b < w4.heap.size), by omega, fun b hb => by have := hR b hb; omega, fun b hb => hb.1, rfl, ?_⟩))⟩
     ·exact hb1.trans ((((Below.refl _ _).alloc hb1.size A).trans (hb3.mono (by omega))).trans ((hb4.mono (by omega)).trans (hb5.mono (by omega))))
     ·exact hM
    clear HV HI HL
    go_enter Tryz.func48, Tryz.ntmps48
    go_wp2_with (first
     | (go_at_call 65; refine HR.mono ?_; rintro e w1 ⟨hb1, ga, gn, gc, ba, bn, bc, rfl, him⟩; have HIM : Hid (InMem w1 (.agg #[.slice ga gn gc, .slice ba bn bc]) (treeOf l)) := HT.out _ _ him; clear him)
     | (go_at_call 70; refine (HV2 _ (hb1.trans ((Below.refl _ _).alloc hb1.size _))).mono ?_; rintro e w3 ⟨hb3, ia, ic, rfl, HO3⟩; have HC3 : Hid _ := HC.out w3 ga gn gc ba bn bc (InMem.below (InMem.below HIM.out ((Below.refl _ w1).alloc (Nat.le_refl _) _)) hb3); have q0 := hb3.cell (p := ⟨w1.heap.size, 0, none⟩) (by simp); have q1 := hb3.cell (p := ⟨w1.heap.size, 1, none⟩) (by simp))
     | (go_at_call 72; refine Calls.mono HC3.out ?_; rintro e w4 ⟨hb4, wb, wc, rfl, hw1, hw2, hwd⟩; have HN : Hid _ := HFin.out w1 w3 w4 _ wb wc ia ic hb1 hb3 hb4 HO3.out hw1 hw2 hwd; clear hwd)
     | (go_at_call 71; refine Calls.mono HN.out ?_; rintro e w5 ⟨xb, rfl, HPo⟩))
    refine bodyPost_ret (v := .tuple #[.pointer (some ⟨xb, 0, none⟩), .int .i64 0, .int .i64 0]) (by simp [results, Tryz.results48, go_sem]) rfl ?_
    go_light
    exact HPo
   ·have hok' : okIn zs = false := by simpa using hok
    have HV2 : ∀ w1, Below w.heap.size w w1 -> Calls Tryz.prog 70 #[.slice va zs.length vcap] w1 fun e w' => Below w1.heap.size w1 w' /\ e = .returned (.tuple #[.slice none 0 0, .bool false]) := fun w1 hb => by
     refine (HV w1 hb).mono ?_
     rintro e w' ⟨hb2, ⟨hyes, _⟩ | ⟨_, rfl⟩⟩
     ·rw [hok'] at hyes; cases hyes
     ·exact ⟨hb2, rfl⟩
    clear HV HI HL HC HT
    go_enter Tryz.func48, Tryz.ntmps48
    go_wp2_with (first
     | (go_at_call 65; refine HR.mono ?_; rintro e w1 ⟨hb1, ga, gn, gc, ba, bn, bc, rfl, _⟩)
     | (go_at_call 70; refine (HV2 _ (hb1.trans ((Below.refl _ _).alloc hb1.size _))).mono ?_; rintro e w3 ⟨hb3, rfl⟩))
    refine bodyPost_ret (v := .tuple #[.pointer none, .int .i64 11, .int .i64 0]) (by simp [results, Tryz.results48, go_sem]) rfl ?_
    go_light
    exact ⟨hb1.trans (((Below.refl _ _).alloc hb1.size _).trans (hb3.mono (by have := hb1.size; simp; omega))), .inr (.inr (.inl ⟨H0.out, hf, hok', rfl⟩))⟩
  ·clear HI HL HC HT
   by_cases f1 : fuel < 0
   ·go_enter Tryz.func48, Tryz.ntmps48
    go_wp2_with (go_at_call 65; refine HR.mono ?_; rintro e w1 ⟨hb1, ga, gn, gc, ba, bn, bc, rfl, _⟩)
    refine bodyPost_ret (v := .tuple #[.pointer none, .int .i64 8, .int .i64 0]) (by simp [results, Tryz.results48, go_sem]) rfl ?_
    go_light
    exact ⟨hb1.trans ((Below.refl _ _).alloc hb1.size _), .inr (.inl ⟨H0.out, hf, rfl⟩)⟩
   ·have f2 : fuel > 3000 := by omega
    go_enter Tryz.func48, Tryz.ntmps48
    go_wp2_with (go_at_call 65; refine HR.mono ?_; rintro e w1 ⟨hb1, ga, gn, gc, ba, bn, bc, rfl, _⟩)
    refine bodyPost_ret (v := .tuple #[.pointer none, .int .i64 8, .int .i64 0]) (by simp [results, Tryz.results48, go_sem]) rfl ?_
    go_light
    exact ⟨hb1.trans ((Below.refl _ _).alloc hb1.size _), .inr (.inl ⟨H0.out, hf, rfl⟩)⟩
 ·have hne : (((checkP l).1 : Int) != 0) = true := by simp; omega
  obtain ⟨va, vcap, rfl, _⟩ := hin
  go_enter Tryz.func48, Tryz.ntmps48
  go_wp2_with (go_at_call 65; refine HR.mono ?_; rintro e w1 ⟨hb1, ga, gn, gc, ba, bn, bc, rfl, _⟩)
  refine bodyPost_ret (v := .tuple #[.pointer none, .int .i64 ((checkP l).1 : Nat), .int .i64 ((checkP l).2 : Nat)]) (by simp [results, Tryz.results48, go_sem]) rfl ?_
  go_light
  exact ⟨hb1.trans ((Below.refl _ _).alloc hb1.size _), .inl ⟨h0, rfl⟩⟩
theorem stepM_inv {W : List Nat} {B : Nat} {m m1 : MS} (hs : stepM W B m = some m1) (h0 : m.over = none) : m.pc < W.length /\ (m.calls.length <= 30 -> m1.calls.length <= 30) /\ (m.used <= B -> m1.used <= B) /\ (m1.over.isSome = true -> m1.stack.length <= m.stack.length) := by
 have hd : m.stack.dropLast.length <= m.stack.length := by rw [List.length_dropLast]; omega
 have hd2 : m.stack.dropLast.dropLast.length <= m.stack.length := by rw [List.length_dropLast, List.length_dropLast]; omega
 have hpc : m.pc < W.length := by
  cases hp : W[m.pc]? with
  | none => unfold stepM at hs; rw [hp] at hs; cases hs
  | some x => exact (List.getElem?_eq_some_iff.1 hp).1
 refine ⟨hpc, ?_⟩
 unfold stepM at hs
 split at hs
 ·cases hs
 ·cases hs; exact ⟨id, id, fun _ => Nat.le_refl _⟩
 ·cases hs
  split
  ·exact ⟨id, id, fun _ => Nat.le_refl _⟩
  ·exact ⟨id, fun h => by simp only; omega, fun _ => Nat.le_refl _⟩
 ·obtain ⟨v, hv, rfl⟩ := Option.map_eq_some_iff.1 hs
  exact ⟨id, id, fun h => by have : m.over.isSome = true := h; rw [h0] at this; cases this⟩
 ·obtain ⟨a, ha, hs⟩ := Option.bind_eq_some_iff.1 hs
  obtain ⟨v, hv, rfl⟩ := Option.map_eq_some_iff.1 hs
  exact ⟨id, id, fun h => by have : m.over.isSome = true := h; rw [h0] at this; cases this⟩
 ·obtain ⟨a, ha, hs⟩ := Option.bind_eq_some_iff.1 hs
  obtain ⟨x, hx, hs⟩ := Option.bind_eq_some_iff.1 hs
  split at hs
  ·cases hs; exact ⟨id, id, fun _ => hd⟩
  ·cases hs
 ·obtain ⟨a, ha, hs⟩ := Option.bind_eq_some_iff.1 hs
  obtain ⟨v, hv, rfl⟩ := Option.map_eq_some_iff.1 hs
  exact ⟨id, id, fun h => by have : m.over.isSome = true := h; rw [h0] at this; cases this⟩
 ·obtain ⟨a, ha, hs⟩ := Option.bind_eq_some_iff.1 hs
  obtain ⟨x, hx, hs⟩ := Option.bind_eq_some_iff.1 hs
  split at hs
  ·cases hs; exact ⟨id, id, fun _ => by simp only [List.length_set]; exact hd⟩
  ·cases hs
 ·obtain ⟨a, ha, hs⟩ := Option.bind_eq_some_iff.1 hs
  obtain ⟨n, hn, hs⟩ := Option.bind_eq_some_iff.1 hs
  obtain ⟨x, hx, rfl⟩ := Option.map_eq_some_iff.1 hs
  split
  ·exact ⟨id, id, fun _ => hd⟩
  ·exact ⟨id, id, fun h => by have : m.over.isSome = true := h; rw [h0] at this; cases this⟩
 ·obtain ⟨x, hx, hs⟩ := Option.bind_eq_some_iff.1 hs
  split at hs
  ·obtain ⟨v, hv, rfl⟩ := Option.map_eq_some_iff.1 hs
   exact ⟨id, id, fun h => by have : m.over.isSome = true := h; rw [h0] at this; cases this⟩
  ·cases hs
 ·obtain ⟨v, hv, hs⟩ := Option.bind_eq_some_iff.1 hs
  obtain ⟨x, hx, hs⟩ := Option.bind_eq_some_iff.1 hs
  split at hs
  ·cases hs; exact ⟨id, id, fun _ => hd2⟩
  ·cases hs
 ·obtain ⟨v, hv, rfl⟩ := Option.map_eq_some_iff.1 hs
  exact ⟨id, id, fun h => by have : m.over.isSome = true := h; rw [h0] at this; cases this⟩
 ·obtain ⟨v, hv, rfl⟩ := Option.map_eq_some_iff.1 hs
  exact ⟨id, id, fun h => by have : m.over.isSome = true := h; rw [h0] at this; cases this⟩
 ·obtain ⟨v, hv, rfl⟩ := Option.map_eq_some_iff.1 hs
  exact ⟨id, id, fun h => by have : m.over.isSome = true := h; rw [h0] at this; cases this⟩
 ·obtain ⟨a, ha, rfl⟩ := Option.map_eq_some_iff.1 hs
  exact ⟨id, id, fun _ => Nat.le_refl _⟩
 ·obtain ⟨a, ha, hs⟩ := Option.bind_eq_some_iff.1 hs
  obtain ⟨x, hx, rfl⟩ := Option.map_eq_some_iff.1 hs
  split
  ·exact ⟨id, id, fun _ => hd⟩
  ·exact ⟨id, id, fun _ => hd⟩
 ·obtain ⟨a, ha, hs⟩ := Option.bind_eq_some_iff.1 hs
  obtain ⟨n, hn, hs⟩ := Option.bind_eq_some_iff.1 hs
  split at hs
  ·cases hs; exact ⟨id, id, fun _ => Nat.le_refl _⟩
  ·rename_i h30
   split at hs
   ·cases hs; exact ⟨fun h => by simp only [List.length_append, List.length_cons, List.length_nil]; omega, id, fun _ => Nat.le_refl _⟩
   ·cases hs
 ·obtain ⟨n, hn, rfl⟩ := Option.map_eq_some_iff.1 hs
  exact ⟨id, id, fun h => by have : m.over.isSome = true := h; rw [h0] at this; cases this⟩
 ·obtain ⟨f, hf, hs⟩ := Option.bind_eq_some_iff.1 hs
  split at hs
  ·cases hs; exact ⟨fun h => by simp only [List.length_dropLast]; omega, id, fun _ => by simp only [List.length_take]; omega⟩
  ·cases hs
 ·obtain ⟨a, ha, hs⟩ := Option.bind_eq_some_iff.1 hs
  obtain ⟨v, hv, hs⟩ := Option.bind_eq_some_iff.1 hs
  obtain ⟨f, hf, hs⟩ := Option.bind_eq_some_iff.1 hs
  split at hs
  ·cases hs; exact ⟨fun h => by simp only [List.length_dropLast]; omega, id, fun h => by have : m.over.isSome = true := h; rw [h0] at this; cases this⟩
  ·cases hs
 ·obtain ⟨x, hx, rfl⟩ := Option.map_eq_some_iff.1 hs
  split
  ·exact ⟨id, id, fun _ => hd⟩
  ·exact ⟨id, id, fun _ => hd⟩
 ·cases hs
  split
  ·exact ⟨id, id, fun _ => Nat.le_refl _⟩
  ·exact ⟨id, id, fun h => by have : m.over.isSome = true := h; rw [h0] at this; cases this⟩
 ·split at hs
  ·obtain ⟨y, hy, hs⟩ := Option.bind_eq_some_iff.1 hs
   obtain ⟨x, hx, rfl⟩ := Option.map_eq_some_iff.1 hs
   split
   ·exact ⟨id, id, fun h => by have : m.over.isSome = true := h; rw [h0] at this; cases this⟩
   ·exact ⟨id, id, fun _ => hd2⟩
  ·cases hs
theorem rch_trn {W : List Nat} {B : Nat} (hW : W.length <= 5000) (hB : B <= 3000) {m m' : MS} (hr : Rch W B m m') : m'.over.isSome = true -> m.calls.length <= 30 -> m.used <= B -> ∃ n, Trn W B B n m m' false := by
 induction hr with
 | refl m => exact fun ho _ _ => ⟨0, .over m ho⟩
 | @step m m1 m2 h0 hb hs hr ih =>
  intro ho hc hu
  obtain ⟨i1, i2, i3, i4⟩ := stepM_inv hs h0
  obtain ⟨n, hn⟩ := ih ho (i2 hc) (i3 hu)
  have hsb : m.stack.length <= 1000000 := by omega
  have hsb1 : m1.stack.length <= 1000000 := by
   cases hr with
   | refl => have := i4 ho; omega
   | step k0 kb ks _ =>
    have := (stepM_inv ks k0).1
    have := i2 hc
    omega
  exact ⟨n + 1, .step h0 (fun _ h2 => h2) hsb hsb1 (by omega) hs hn⟩
def RunPost (l : List UInt8) (zs : List Int) (fuel : Int) (w : World) (e : Ending) (w' : World) : Prop :=
 Below w.heap.size w w' /\
 (((checkP l).1 ≠ 0 /\ e = .returned (.tuple #[.agg #[.int .i64 0, .slice none 0 0, .int .i64 0], .int .i64 ((checkP l).1 : Nat), .int .i64 ((checkP l).2 : Nat)])) ∨
  ((checkP l).1 = 0 /\ ¬ (0 <= fuel /\ fuel <= 3000) /\ e = .returned (.tuple #[.agg #[.int .i64 0, .slice none 0 0, .int .i64 0], .int .i64 8, .int .i64 0])) ∨
  ((checkP l).1 = 0 /\ (0 <= fuel /\ fuel <= 3000) /\ okIn zs = false /\ e = .returned (.tuple #[.agg #[.int .i64 0, .slice none 0 0, .int .i64 0], .int .i64 11, .int .i64 0])) ∨
  ((checkP l).1 = 0 /\ (0 <= fuel /\ fuel <= 3000) /\ okIn zs = true /\ ∃ oa oc, e = .returned (.tuple #[.agg #[.int .i64 ((outcome (treeOf l) zs fuel.toNat).1 : Nat), .slice oa (outcome (treeOf l) zs fuel.toNat).2.1.length oc, .int .i64 ((outcome (treeOf l) zs fuel.toNat).2.2 : Nat)], .int .i64 0, .int .i64 0]) /\
     w'.ownsRow w.heap.size 3 1 (.slice oa (outcome (treeOf l) zs fuel.toNat).2.1.length oc) (outcome (treeOf l) zs fuel.toNat).2.1.length ((outcome (treeOf l) zs fuel.toNat).2.1.map (.int .i64)) /\ (outcome (treeOf l) zs fuel.toNat).2.1.length <= 60))
theorem owns_up {w : World} {base base' : Nat} {e : TypeId} {size : Nat} {v : Value} {n : Nat} {xs : List Value} (h : w.ownsRow base e size v n xs) (hb : ∀ g, v.ownBlock = some g -> base' <= g) : w.ownsRow base' e size v n xs := by
 obtain ⟨h1, h2⟩ := h
 refine ⟨h1, ?_⟩
 rcases h2 with h2 | ⟨g, cap, cur, hv, _, r⟩
 ·exact .inl h2
 ·exact .inr ⟨g, cap, cur, hv, hb g (by rw [hv]; rfl), r⟩
theorem run_post {l : List UInt8} {zs : List Int} {fn xb wb wc : Nat} {W : List Nat} {Q : Nat -> Prop} {w w2 w3 : World} {A : Obj} {m' : MS} {R R' : MR} {vi' : Value} {limit : Nat} {b : Bool} {oa : Option Addr} {oc : Nat} (hc : (checkP l).1 = 0) (hf : fn <= 3000) (hok : okIn zs = true)
  (hb2 : Below (w.alloc A).heap.size (w.alloc A) w2) (hx : (w.alloc A).heap.size <= xb) (hR : ∀ b, R.has b -> (w.alloc A).heap.size <= b) (hM : MC xb wb wc W Q w3 m' fn limit b R' vi') (hk : MM xb R R' w2 w3) (ho : R'.ou = .slice oa m'.out.length oc)
  (h1 : m'.over = some (outcome (treeOf l) zs fn).1) (h2 : m'.out = (outcome (treeOf l) zs fn).2.1) (h3 : m'.used = (outcome (treeOf l) zs fn).2.2) (x y z : Value) (B : Obj) :
  RunPost l zs fn w (.returned (.tuple #[.agg #[.int .i64 ((m'.over.getD 0 : Nat) : Int), .slice oa m'.out.length oc, .int .i64 (m'.used : Nat)], .int .i64 0, .int .i64 0])) ((((w3.setCell ⟨w.heap.size, 0, none⟩ x).setCell ⟨w.heap.size, 1, none⟩ y).setCell ⟨w.heap.size, 2, none⟩ z).alloc B) := by
 have hsA : (w.alloc A).heap.size = w.heap.size + 1 := by simp
 have hs2 := hb2.size
 have hs3 := hk.1.size
 have hB3 : Below w.heap.size w w3 := ((Below.refl _ w).alloc (Nat.le_refl _) A).trans ((hb2.mono (by omega)).trans ⟨hk.1.os, hk.1.tape, hk.1.output, hk.1.size, fun k hkl => hk.1.block k (by omega) (by
  rintro (e | e)
  ·omega
  ·have := hR k e; omega)⟩)
 have hog : ∀ g, R'.ou.ownBlock = some g -> w.heap.size + 1 <= g := fun g hg => by
  rcases hk.2 g (.inr (.inr (.inr hg))) with e | e
  ·have := hR g e; omega
  ·omega
 have how : w3.ownsRow (w.heap.size + 1) 3 1 (.slice oa m'.out.length oc) m'.out.length (m'.out.map (.int .i64)) := by
  have := owns_up hM.rows.ou hog
  rw [ho] at this
  exact this
 have hg2 : ∀ g, (Value.slice oa m'.out.length oc).ownBlock = some g -> w.heap.size + 1 <= g := fun g hg => hog g (by rw [ho]; exact hg)
 have hfin : ((((w3.setCell ⟨w.heap.size, 0, none⟩ x).setCell ⟨w.heap.size, 1, none⟩ y).setCell ⟨w.heap.size, 2, none⟩ z).alloc B).ownsRow w.heap.size 3 1 (.slice oa m'.out.length oc) m'.out.length (m'.out.map (.int .i64)) := by
  refine World.ownsRow.alloc ?_ B
  refine owns_same (w := w3) (owns_up how fun g hg => by have := hg2 g hg; omega) fun g hg => ?_
  have hne : g ≠ w.heap.size := by have := hg2 g hg; omega
  rw [Below.heap_setCell _ _ _ _ hne, Below.heap_setCell _ _ _ _ hne, Below.heap_setCell _ _ _ _ hne]
 refine ⟨(((hB3.setCell (Nat.le_refl _) x).setCell (Nat.le_refl _) y).setCell (Nat.le_refl _) z).alloc (by simp [World.setCell]; exact hB3.size) B, .inr (.inr (.inr ⟨hc, by omega, hok, oa, oc, ?_, ?_, ?_⟩))⟩
 ·rw [Int.toNat_natCast, <- h2, <- h3, h1]; rfl
 ·rw [Int.toNat_natCast, <- h2]; exact hfin
 ·rw [Int.toNat_natCast, <- h2]; exact hM.rows.o60
theorem cells3 {w3 : World} {n : Nat} (h : n < w3.heap.size) {a b c : Value} (r0 : w3.cell? ⟨n, 0, none⟩ = some a) (r1 : w3.cell? ⟨n, 1, none⟩ = some b) (r2 : w3.cell? ⟨n, 2, none⟩ = some c) (x y z : Value) (B : Obj) :
  ((((w3.setCell ⟨n, 0, none⟩ x).setCell ⟨n, 1, none⟩ y).setCell ⟨n, 2, none⟩ z).alloc B).cell? ⟨n, 0, none⟩ = some x /\ ((((w3.setCell ⟨n, 0, none⟩ x).setCell ⟨n, 1, none⟩ y).setCell ⟨n, 2, none⟩ z).alloc B).cell? ⟨n, 1, none⟩ = some y /\ ((((w3.setCell ⟨n, 0, none⟩ x).setCell ⟨n, 1, none⟩ y).setCell ⟨n, 2, none⟩ z).alloc B).cell? ⟨n, 2, none⟩ = some z := by
 have hs : n < (((w3.setCell ⟨n, 0, none⟩ x).setCell ⟨n, 1, none⟩ y).setCell ⟨n, 2, none⟩ z).heap.size := by simpa [World.setCell] using h
 have ne : ∀ {i j : Nat}, i ≠ j -> (⟨n, i, none⟩ : Addr) ≠ ⟨n, j, none⟩ := fun hij e => hij (by injection e)
 refine ⟨?_, ?_, ?_⟩
 ·rw [World.cell?_alloc_lt _ _ _ hs, World.cell?_setCell_other _ _ _ _ (ne (by omega)), World.cell?_setCell_other _ _ _ _ (ne (by omega))]
  exact World.cell?_setCell_same _ _ _ r0
 ·rw [World.cell?_alloc_lt _ _ _ hs, World.cell?_setCell_other _ _ _ _ (ne (by omega))]
  exact World.cell?_setCell_same _ _ _ (show _ = some b by rw [World.cell?_setCell_other _ _ _ _ (ne (by omega))]; exact r1)
 ·rw [World.cell?_alloc_lt _ _ _ hs]
  exact World.cell?_setCell_same _ _ _ (show _ = some c by rw [World.cell?_setCell_other _ _ _ _ (ne (by omega)), World.cell?_setCell_other _ _ _ _ (ne (by omega))]; exact r2)
theorem run_any (s : ByteArray) (v : Value) (zs : List Int) (fuel : Int) (w : World) (hin : IntsAt w v zs) (hl : zs.length <= 35184372088831) :
  Calls Tryz.prog 19 #[.string s, v, .int .i64 fuel] w (RunPost s.data.toList zs fuel w) := by
 have k1 : ∀ A, Below w.heap.size w (w.alloc A) := fun A => (Below.refl _ _).alloc (Nat.le_refl _) _
 have HP := fun A => prepare_any s v zs fuel (w.alloc A) (hin.under (k1 A)) hl
 generalize s.data.toList = l at *
 have hq0 : ∀ o, (w.alloc (.cells #[.int .i64 0, .slice none 0 0, .int .i64 0] 39)).cell? ⟨w.heap.size, o, none⟩ = #[Value.int .i64 0, .slice none 0 0, .int .i64 0][o]? := fun o => World.cell?_alloc_new w _ _ o
 have hf0 : ∀ o, (w.alloc (.cells #[.int .i64 0, .slice none 0 0, .int .i64 0] 39)).frozen? ⟨w.heap.size, o, none⟩ = false := fun o => World.frozen?_alloc_new w _ _ o
 have hwz : w.heap.size < (w.alloc (.cells #[.int .i64 0, .slice none 0 0, .int .i64 0] 39)).heap.size := by simp
 obtain ⟨va, vcap, hva, _⟩ := hin
 subst hva
 by_cases hbad : (checkP l).1 = 0 /\ (0 <= fuel /\ fuel <= 3000) /\ okIn zs = true
 ·obtain ⟨hc, hf, hok⟩ := hbad
  obtain ⟨fn, rfl⟩ : ∃ fn : Nat, fuel = fn := ⟨fuel.toNat, by omega⟩
  obtain ⟨hP, _, _⟩ := passed_of hc
  obtain ⟨T2, hT601, hwh⟩ := hP.wh
  have hlen5 : (cPr (treeOf l)).1.length <= 5000 := by have := hP.len; omega
  obtain ⟨hLe, _⟩ := bw_program hwh hT601 hP.look hlen5
  obtain ⟨m', hr, ho, hu1, hu2⟩ := run_code hwh hT601 hP.look hlen5 zs fn
  obtain ⟨n, hn⟩ := rch_trn hlen5 (by omega) hr (by rw [ho]; rfl) (Nat.zero_le _) (Nat.zero_le _)
  have HPP : Hid (∀ A, Calls Tryz.prog 48 #[.string s, .slice va zs.length vcap, .int .i64 (fn : Nat)] (w.alloc A) fun e w' => Below (w.alloc A).heap.size (w.alloc A) w' /\ ∃ xb wb wc vi, ∃ (R : MR) (Q : Nat -> Prop), e = .returned (.tuple #[.pointer (some ⟨xb, 0, none⟩), .int .i64 0, .int .i64 0]) /\ Hid ((w.alloc A).heap.size <= xb /\ (∀ b, R.has b -> (w.alloc A).heap.size <= b) /\
    Calls Tryz.prog 49 #[.pointer (some ⟨xb, 0, none⟩), .int .i64 (fn : Nat)] w' (GnPo xb wb wc (cPr (treeOf l)).1 Q fn (0 + fn) false R w' m'))) := fun A => by
   refine (HP A).mono ?_
   rintro e w' ⟨hb, h | h | h | h⟩
   ·exact absurd hc h.1
   ·exact absurd hf h.2.1
   ·rw [hok] at h; cases h.2.2.1
   ·obtain ⟨_, _, _, xb, wb, wc, vi, R, Q, g1, g2, g3, rfl, hM⟩ := h
    rw [Int.toNat_natCast] at hM
    refine ⟨hb, xb, wb, wc, vi, R, Q, rfl, g1, g2, ?_⟩
    have hz : (m0 (cPr (treeOf l)) zs).used = 0 := rfl
    have := goOn_any hM (by omega) hLe (units := fn) (n := n) (b := false) (m' := m') (by rw [hz, Nat.zero_add]; exact hn) (by rw [hz]; omega)
    rw [hz] at this
    exact this
  have HFin : Hid (∀ (w2 w3 : World) (xb wb wc : Nat) (Q : Nat -> Prop) (R R' : MR) (vi' : Value) (oa : Option Addr) (oc : Nat) (x y z : Value) (B : Obj), Below (w.alloc (.cells #[.int .i64 0, .slice none 0 0, .int .i64 0] 39)).heap.size (w.alloc (.cells #[.int .i64 0, .slice none 0 0, .int .i64 0] 39)) w2 -> (w.alloc (.cells #[.int .i64 0, .slice none 0 0, .int .i64 0] 39)).heap.size <= xb -> (∀ b, R.has b -> (w.alloc (.cells #[.int .i64 0, .slice none 0 0, .int .i64 0] 39)).heap.size <= b) -> R'.ou = .slice oa m'.out.length oc -> MC xb wb wc (cPr (treeOf l)).1 Q w3 m' fn (0 + fn) false R' vi' -> MM xb R R' w2 w3 ->
    RunPost l zs fn w (.returned (.tuple #[.agg #[.int .i64 ((m'.over.getD 0 : Nat) : Int), .slice oa m'.out.length oc, .int .i64 (m'.used : Nat)], .int .i64 0, .int .i64 0])) ((((w3.setCell ⟨w.heap.size, 0, none⟩ x).setCell ⟨w.heap.size, 1, none⟩ y).setCell ⟨w.heap.size, 2, none⟩ z).alloc B)) :=
   fun w2 w3 xb wb wc Q R R' vi' oa oc x y z B a1 a2 a3 a4 a5 a6 => run_post hc (by omega) hok a1 a2 a3 a5 a6 a4 ho hu1 hu2 x y z B
  have HKeep : Hid (∀ (w2 w3 : World) (xb : Nat) (R R' : MR), Below (w.alloc (.cells #[.int .i64 0, .slice none 0 0, .int .i64 0] 39)).heap.size (w.alloc (.cells #[.int .i64 0, .slice none 0 0, .int .i64 0] 39)) w2 -> (w.alloc (.cells #[.int .i64 0, .slice none 0 0, .int .i64 0] 39)).heap.size <= xb -> (∀ b, R.has b -> (w.alloc (.cells #[.int .i64 0, .slice none 0 0, .int .i64 0] 39)).heap.size <= b) -> MM xb R R' w2 w3 -> w.heap.size < w3.heap.size /\ ∀ o, w3.cell? ⟨w.heap.size, o, none⟩ = #[Value.int .i64 0, .slice none 0 0, .int .i64 0][o]? /\ w3.frozen? ⟨w.heap.size, o, none⟩ = false) := fun w2 w3 xb R R' a1 a2 a3 a4 => by
   have := a1.size
   obtain ⟨b1, b2, b3⟩ := a4.keeps (k := w.heap.size) (by omega) (by omega) (fun e => by have := a3 _ e; omega)
   exact ⟨b3, fun o => ⟨by rw [World.cell?_of_block (w := w2) b1, a1.cell (p := ⟨w.heap.size, o, none⟩) hwz]; exact hq0 o, by rw [World.frozen?_of_block (w := w2) b1, a1.frozen (p := ⟨w.heap.size, o, none⟩) hwz]; exact hf0 o⟩⟩
  have hol : m'.over.isSome = true := by rw [ho]; rfl
  clear HP hq0 hf0 hr hn hP hwh hLe hok hc ho hu1 hu2 hlen5 hT601
  go_enter Tryz.func19, Tryz.ntmps19
  go_wp2_with (first
   | (go_at_call 48; refine Calls.mono (HPP.out _) ?_; rintro e w2 ⟨hb2, xb, wb, wc, vi, R, Q, rfl, HG⟩)
   | (go_at_call 49; refine Calls.mono HG.out.2.2 ?_; rintro e w3 ⟨R', vi', oa, oc, hou, rfl, hM3, hk3⟩; obtain ⟨hz3, hkp⟩ := HKeep.out _ _ _ _ _ hb2 HG.out.1 HG.out.2.1 hk3; obtain ⟨r0, z0⟩ := hkp 0; obtain ⟨r1, z1⟩ := hkp 1; obtain ⟨r2, z2⟩ := hkp 2; have HF : Hid _ := fun x y z B => HFin.out w2 w3 xb wb wc Q R R' vi' oa oc x y z B hb2 HG.out.1 HG.out.2.1 hou hM3 hk3; clear hkp hou hM3 hk3))
  have g0 := fun x y z B => (cells3 hz3 r0 r1 r2 x y z B).1
  have g1 := fun x y z B => (cells3 hz3 r0 r1 r2 x y z B).2.1
  have g2 := fun x y z B => (cells3 hz3 r0 r1 r2 x y z B).2.2
  refine bodyPost_ret (v := .tuple #[.agg #[.int .i64 ((m'.over.getD 0 : Nat) : Int), .slice oa m'.out.length oc, .int .i64 (m'.used : Nat)], .int .i64 0, .int .i64 0]) (by simp [results, Tryz.results19, go_sem, g0, g1, g2]) rfl ?_
  go_light
  exact HF.out _ _ _ _
 ·have HPP : Hid (∀ A, Calls Tryz.prog 48 #[.string s, .slice va zs.length vcap, .int .i64 fuel] (w.alloc A) fun e w' => Below (w.alloc A).heap.size (w.alloc A) w' /\ ∃ c p : Nat, c ≠ 0 /\ e = .returned (.tuple #[.pointer none, .int .i64 (c : Nat), .int .i64 (p : Nat)]) /\ Hid (∀ w9, Below w.heap.size w w9 -> RunPost l zs fuel w (.returned (.tuple #[.agg #[.int .i64 0, .slice none 0 0, .int .i64 0], .int .i64 (c : Nat), .int .i64 (p : Nat)])) w9)) := fun A => by
   refine (HP A).mono ?_
   rintro e w' ⟨hb, h | h | h | h⟩
   ·exact ⟨hb, _, _, h.1, h.2, fun w9 hb9 => ⟨hb9, .inl ⟨h.1, rfl⟩⟩⟩
   ·exact ⟨hb, 8, 0, by omega, h.2.2, fun w9 hb9 => ⟨hb9, .inr (.inl ⟨h.1, h.2.1, rfl⟩)⟩⟩
   ·exact ⟨hb, 11, 0, by omega, h.2.2.2, fun w9 hb9 => ⟨hb9, .inr (.inr (.inl ⟨h.1, h.2.1, h.2.2.1, rfl⟩))⟩⟩
   ·exact absurd ⟨h.1, h.2.1, h.2.2.1⟩ hbad
  clear HP hbad
  go_enter Tryz.func19, Tryz.ntmps19
  go_wp2_with (go_at_call 48; refine Calls.mono (HPP.out _) ?_; rintro e w2 ⟨hb2, c, p, hc0, rfl, HF⟩; have hcb : ((c : Int) != 0) = true := (by simp; omega); have r0 := (hb2.cell (p := ⟨w.heap.size, 0, none⟩) hwz).trans (hq0 0); have r1 := (hb2.cell (p := ⟨w.heap.size, 1, none⟩) hwz).trans (hq0 1); have r2 := (hb2.cell (p := ⟨w.heap.size, 2, none⟩) hwz).trans (hq0 2); have z0 := (hb2.frozen (p := ⟨w.heap.size, 0, none⟩) hwz).trans (hf0 0); have z1 := (hb2.frozen (p := ⟨w.heap.size, 1, none⟩) hwz).trans (hf0 1); have z2 := (hb2.frozen (p := ⟨w.heap.size, 2, none⟩) hwz).trans (hf0 2))
  refine bodyPost_ret (v := .tuple #[.agg #[.int .i64 0, .slice none 0 0, .int .i64 0], .int .i64 (c : Nat), .int .i64 (p : Nat)]) (by simp [results, Tryz.results19, go_sem, r0, r1, r2]) rfl ?_
  go_light
  have HB : Below w.heap.size w w2 := (k1 _).trans (hb2.mono (Nat.le_of_lt hwz))
  exact HF.out _ (((HB.setCell (Nat.le_refl _) _).setCell (Nat.le_refl _) _).setCell (Nat.le_refl _) _)
end Go.Proofs.YtklobognaldjpaaGreat
