/- The reader in memory; what its smallest functions do. The reader: faults, what must stand there, names and numbers. The reader: names, numbers, depth. The reader: one of some signs. The tree in memory -/
import Derived.Test.YtklobognaldjpaaGreatCScan5
import Derived.Test.YtklobognaldjpaaGreatCPure5
import Derived.BigQuiet
import Derived.Deep.QuietTactic
import Derived.BigRegion
import Derived.Deep.RegionWith
import Derived.Lib.SlicesS
set_option maxHeartbeats 1000000
set_option maxRecDepth 100000
namespace Go.Proofs.YtklobognaldjpaaGreat
open Go.RowKit
structure Par (pb : Nat) (w w' : World) : Prop where
 os : w'.os = w.os
 tape : w'.tape = w.tape
 output : w'.output = w.output
 size : w.heap.size <= w'.heap.size
 block : ∀ k, k < w.heap.size -> k ≠ pb -> w'.heap[k]? = w.heap[k]?
theorem Par.refl (pb : Nat) (w : World) : Par pb w w := ⟨rfl, rfl, rfl, Nat.le_refl _, fun _ _ _ => rfl⟩
theorem Par.trans {pb : Nat} {a b c : World} (h : Par pb a b) (k : Par pb b c) : Par pb a c :=
 ⟨k.os.trans h.os, k.tape.trans h.tape, k.output.trans h.output, Nat.le_trans h.size k.size, fun i hi hn => (k.block i (Nat.lt_of_lt_of_le hi h.size) hn).trans (h.block i hi hn)⟩
theorem Par.of_below {pb : Nat} {w w' : World} (h : Below w.heap.size w w') : Par pb w w' := ⟨h.os, h.tape, h.output, h.size, fun k hk _ => h.block k hk⟩
theorem Par.drewN {pb : Nat} {a w : World} (h : Par pb a w) (n : Nat) : Par pb a (w.drewN n) := h.trans ⟨rfl, rfl, rfl, Nat.le_refl _, fun _ _ _ => rfl⟩
theorem Par.alloc {pb : Nat} {a w : World} (h : Par pb a w) (o : Obj) : Par pb a (w.alloc o) := h.trans (Par.of_below ((Below.refl _ _).alloc (Nat.le_refl _) o))
theorem Par.setCell {pb : Nat} {a w : World} (h : Par pb a w) (o : Nat) (u : Value) : Par pb a (w.setCell ⟨pb, o, none⟩ u) :=
 h.trans ⟨rfl, rfl, rfl, by simp [World.setCell], fun k _ hn => Below.heap_setCell _ _ _ _ hn⟩
theorem Par.setNew {pb : Nat} {a w : World} (h : Par pb a w) {p : Addr} (hp : a.heap.size <= p.block) (u : Value) : Par pb a (w.setCell p u) :=
 ⟨h.os, h.tape, h.output, by rw [World.setCell]; simp; exact h.size, fun k hk hn => by rw [Below.heap_setCell _ _ _ _ (by omega)]; exact h.block k hk hn⟩
theorem Par.cell {pb : Nat} {w w' : World} (h : Par pb w w') {p : Addr} (hp : p.block < w.heap.size) (hn : p.block ≠ pb) : w'.cell? p = w.cell? p := World.cell?_of_block (w := w) (h.block p.block hp hn)
theorem Par.frozen {pb : Nat} {w w' : World} (h : Par pb w w') {p : Addr} (hp : p.block < w.heap.size) (hn : p.block ≠ pb) : w'.frozen? p = w.frozen? p := World.frozen?_of_block (w := w) (h.block p.block hp hn)
theorem lt_of_cell {w : World} {a : Addr} {v : Value} (h : w.cell? a = some v) : a.block < w.heap.size := by
 unfold World.cell? at h
 split at h
 ·rename_i hh; exact (Array.getElem?_eq_some_iff.1 hh).1
 ·cases h
structure PW (pb tb cap : Nat) (T : List Tok) (w : World) (s : PS) : Prop where
 code : w.cell? ⟨pb, 0, none⟩ = some (.int .i64 s.code)
 at_ : w.cell? ⟨pb, 1, none⟩ = some (.int .i64 s.at_)
 toks : w.cell? ⟨pb, 2, none⟩ = some (.slice (some ⟨tb, 0, none⟩) T.length cap)
 next : w.cell? ⟨pb, 3, none⟩ = some (.int .i64 s.next)
 frz : ∀ o, w.frozen? ⟨pb, o, none⟩ = false
 tok : ∀ j u, (toksC T)[j]? = some u -> w.cell? ⟨tb, j, none⟩ = some u
 ne : tb ≠ pb
 tlt : tb < w.heap.size
 size : T.length <= 601
theorem PW.lt {pb tb cap : Nat} {T : List Tok} {w : World} {s : PS} (h : PW pb tb cap T w s) : pb < w.heap.size := lt_of_cell h.code
theorem PW.below {pb tb cap : Nat} {T : List Tok} {w w' : World} {s : PS} (h : PW pb tb cap T w s) (hb : Below w.heap.size w w') : PW pb tb cap T w' s := by
 have hl := h.lt
 have e : ∀ o, w'.cell? ⟨pb, o, none⟩ = w.cell? ⟨pb, o, none⟩ := fun o => hb.cell (p := ⟨pb, o, none⟩) hl
 exact ⟨by rw [e]; exact h.code, by rw [e]; exact h.at_, by rw [e]; exact h.toks, by rw [e]; exact h.next,
  fun o => by rw [hb.frozen (p := ⟨pb, o, none⟩) hl]; exact h.frz o,
  fun j u hj => by rw [hb.cell (p := ⟨tb, j, none⟩) h.tlt]; exact h.tok j u hj, h.ne, Nat.lt_of_lt_of_le h.tlt hb.size, h.size⟩
theorem toksC_get : ∀ (T : List Tok) (i : Nat) (t : Tok), T[i]? = some t -> ∀ j, j < 4 -> (toksC T)[i * 4 + j]? = (tokC t)[j]?
 | [], i, t, h, _, _ => by simp at h
 | a :: T, 0, t, h, j, hj => by
  simp at h; subst h
  have e : toksC (a :: T) = tokC a ++ toksC T := rfl
  have e2 : (tokC a).length = 4 := rfl
  rw [e, List.getElem?_append_left (by omega)]; simp
 | a :: T, i + 1, t, h, j, hj => by
  have e : toksC (a :: T) = tokC a ++ toksC T := rfl
  have e2 : (tokC a).length = 4 := rfl
  rw [e, List.getElem?_append_right (by omega), e2]
  have := toksC_get T i t (by simpa using h) j hj
  rw [<- this]; congr 1; omega
theorem PW.curCells {pb tb cap : Nat} {T : List Tok} {w : World} {s : PS} (h : PW pb tb cap T w s) (hg : Good T s) :
  w.cell? ⟨tb, s.next * 4, none⟩ = some (.int .i64 (cur T s).kind.p) /\ w.cell? ⟨tb, s.next * 4 + 1, none⟩ = some (.string (cur T s).text) /\
  w.cell? ⟨tb, s.next * 4 + 2, none⟩ = some (.int .i64 (cur T s).val) /\ w.cell? ⟨tb, s.next * 4 + 3, none⟩ = some (.int .i64 (cur T s).pos) := by
 have e : T[s.next]? = some (cur T s) := by
  unfold cur; rw [List.getD_eq_getElem?_getD, List.getElem?_eq_getElem hg]; rfl
 have g := toksC_get T s.next (cur T s) e
 exact ⟨h.tok _ _ ((g 0 (by omega)).trans rfl), h.tok _ _ ((g 1 (by omega)).trans rfl), h.tok _ _ ((g 2 (by omega)).trans rfl), h.tok _ _ ((g 3 (by omega)).trans rfl)⟩
theorem token_any {pb tb cap : Nat} {T : List Tok} {w : World} {s : PS} (h : PW pb tb cap T w s) (hg : Good T s) :
  Calls Tryz.prog 145 #[.pointer (some ⟨pb, 0, none⟩)] w fun e w' => e = .returned (.agg #[.int .i64 (cur T s).kind.p, .string (cur T s).text, .int .i64 (cur T s).val, .int .i64 (cur T s).pos]) /\ Below w.heap.size w w' := by
 obtain ⟨c0, c1, c2, c3⟩ := h.curCells hg
 have ht := h.toks
 have hn := h.next
 have hs := h.size
 have hg' : (s.next : Int) < T.length := by unfold Good at hg; omega
 have hl := h.lt
 have htl := h.tlt
 clear h hg
 generalize (cur T s).kind.p = kk at *
 generalize (cur T s).text = tx at *
 generalize (cur T s).val = vv at *
 generalize (cur T s).pos = pp at *
 go_enter Tryz.func145, Tryz.ntmps145
 go_wp2
 go_region
 go_wp2
 refine bodyPost_ret (v := .agg #[.int .i64 kk, .string tx, .int .i64 vv, .int .i64 pp]) (by simp [results, Tryz.results145, go_sem]) rfl ⟨rfl, ?_⟩
 exact ((Below.refl _ _).alloc (Nat.le_refl _) _).drew
theorem PW.setNext {pb tb cap : Nat} {T : List Tok} {w : World} {s : PS} (h : PW pb tb cap T w s) (n : Nat) : PW pb tb cap T (w.setCell ⟨pb, 3, none⟩ (.int .i64 n)) { s with next := n } := by
 have hne := h.ne
 refine ⟨?_, ?_, ?_, ?_, ?_, ?_, hne, by simp [World.setCell]; exact h.tlt, h.size⟩
 ·rw [World.cell?_setCell_other _ _ _ _ (by simp)]; exact h.code
 ·rw [World.cell?_setCell_other _ _ _ _ (by simp)]; exact h.at_
 ·rw [World.cell?_setCell_other _ _ _ _ (by simp)]; exact h.toks
 ·exact World.cell?_setCell_same _ _ _ h.next
 ·intro o; rw [World.frozen?_setCell]; exact h.frz o
 ·intro j u hj; rw [World.cell?_setCell_other _ _ _ _ (by intro e; cases e; exact hne rfl)]; exact h.tok j u hj
theorem PW.setTell {pb tb cap : Nat} {T : List Tok} {w : World} {s : PS} (h : PW pb tb cap T w s) (c p : Nat) : PW pb tb cap T ((w.setCell ⟨pb, 0, none⟩ (.int .i64 c)).setCell ⟨pb, 1, none⟩ (.int .i64 p)) { s with code := c, at_ := p } := by
 have hne := h.ne
 refine ⟨?_, ?_, ?_, ?_, ?_, ?_, hne, by simp [World.setCell]; exact h.tlt, h.size⟩
 ·rw [World.cell?_setCell_other _ _ _ _ (by simp)]; exact World.cell?_setCell_same _ _ _ h.code
 ·exact World.cell?_setCell_same _ _ _ (by rw [World.cell?_setCell_other _ _ _ _ (by simp)]; exact h.at_)
 ·rw [World.cell?_setCell_other _ _ _ _ (by simp), World.cell?_setCell_other _ _ _ _ (by simp)]; exact h.toks
 ·rw [World.cell?_setCell_other _ _ _ _ (by simp), World.cell?_setCell_other _ _ _ _ (by simp)]; exact h.next
 ·intro o; rw [World.frozen?_setCell, World.frozen?_setCell]; exact h.frz o
 ·intro j u hj
  rw [World.cell?_setCell_other _ _ _ _ (by intro e; cases e; exact hne rfl), World.cell?_setCell_other _ _ _ _ (by intro e; cases e; exact hne rfl)]; exact h.tok j u hj
theorem tokField1 (k v p : Int) (t : ByteArray) (w : World) : (Instr.field 191 (.agg #[.int .i64 k, .string t, .int .i64 v, .int .i64 p]) 1).run Tryz.prog w = .ok (.string t) w := by kernel_rfl
theorem tokField3 (k v p : Int) (t : ByteArray) (w : World) : (Instr.field 191 (.agg #[.int .i64 k, .string t, .int .i64 v, .int .i64 p]) 3).run Tryz.prog w = .ok (.int .i64 p) w := by kernel_rfl
theorem tokField0 (k v p : Int) (t : ByteArray) (w : World) : (Instr.field 191 (.agg #[.int .i64 k, .string t, .int .i64 v, .int .i64 p]) 0).run Tryz.prog w = .ok (.int .i64 k) w := by kernel_rfl
theorem tokField2 (k v p : Int) (t : ByteArray) (w : World) : (Instr.field 191 (.agg #[.int .i64 k, .string t, .int .i64 v, .int .i64 p]) 2).run Tryz.prog w = .ok (.int .i64 v) w := by kernel_rfl
section
variable {pb tb cap : Nat} {T : List Tok} {w : World} {s : PS}
theorem sees_any (h : PW pb tb cap T w s) (hg : Good T s) (f : ByteArray) :
  Calls Tryz.prog 187 #[.pointer (some ⟨pb, 0, none⟩), .string f] w fun e w' => e = .returned (.bool (sees T f s)) /\ Below w.heap.size w w' := by
 have hF := tokField1
 go_enter Tryz.func187, Tryz.ntmps187
 go_wp2_with (go_at_call 145; refine (token_any h hg).mono ?_; rintro e w1 ⟨rfl, hb⟩)
 go_ret
 exact ⟨rfl, hb⟩
theorem take_yes (h : PW pb tb cap T w s) (hg : Good T s) (f : ByteArray) (hs : sees T f s = true) :
  Calls Tryz.prog 165 #[.pointer (some ⟨pb, 0, none⟩), .string f] w fun e w' => e = .returned (.bool true) /\ PW pb tb cap T w' (adv s) /\ Par pb w w' := by
 have hS := sees_any h hg f
 rw [hs] at hS
 have hsz := h.size
 have hg' : s.next < T.length := hg
 go_enter Tryz.func165, Tryz.ntmps165
 go_wp2_with (go_at_call 187; refine hS.mono ?_; rintro e w1 ⟨rfl, hb⟩; have hP := h.below hb; have hn := hP.next; have hf := hP.frz 3)
 go_ret
 exact ⟨rfl, hP.setNext (s.next + 1), (Par.of_below hb).setCell _ _⟩
theorem take_no (h : PW pb tb cap T w s) (hg : Good T s) (f : ByteArray) (hs : sees T f s = false) :
  Calls Tryz.prog 165 #[.pointer (some ⟨pb, 0, none⟩), .string f] w fun e w' => e = .returned (.bool false) /\ PW pb tb cap T w' s /\ Par pb w w' := by
 have hS := sees_any h hg f
 rw [hs] at hS
 go_enter Tryz.func165, Tryz.ntmps165
 go_wp2_with (go_at_call 187; refine hS.mono ?_; rintro e w1 ⟨rfl, hb⟩)
 go_ret
 exact ⟨rfl, h.below hb, Par.of_below hb⟩
def tellS (c p : Nat) (s : PS) : PS := { s with code := if s.code = 0 then c else s.code, at_ := if s.code = 0 then p else s.at_ }
theorem tell_any (h : PW pb tb cap T w s) (c p : Nat) :
  Calls Tryz.prog 148 #[.pointer (some ⟨pb, 0, none⟩), .int .i64 c, .int .i64 p] w fun e w' => e = .returned (.tuple #[]) /\ PW pb tb cap T w' (tellS c p s) /\ Par pb w w' := by
 have hc := h.code
 have ha := h.at_
 have h0 := h.frz 0
 have h1 := h.frz 1
 by_cases hz : s.code = 0
 ·have e : tellS c p s = { s with code := c, at_ := p } := by simp [tellS, hz]
  rw [e]
  rw [hz] at hc
  clear e
  go_enter Tryz.func148, Tryz.ntmps148
  go_wp2
  go_end0
  exact ⟨rfl, h.setTell c p, ((Par.refl _ _).setCell _ _).setCell _ _⟩
 ·have e : tellS c p s = s := by simp [tellS, hz]
  rw [e]
  have hz' : ((s.code : Int) == 0) = false := by simp; omega
  clear e hz
  go_enter Tryz.func148, Tryz.ntmps148
  go_wp2
  go_end0
  exact ⟨rfl, h, Par.refl _ _⟩
end
section
variable {pb tb cap : Nat} {T : List Tok} {w : World} {s : PS}
theorem fail_any (h : PW pb tb cap T w s) (hg : Good T s) (c : Nat) :
  Calls Tryz.prog 146 #[.pointer (some ⟨pb, 0, none⟩), .int .i64 c] w fun e w' => e = .returned (.tuple #[]) /\ PW pb tb cap T w' (fails T c s) /\ Par pb w w' := by
 have hF := tokField3
 have hsz := h.size
 have hg' : s.next < T.length := hg
 go_enter Tryz.func146, Tryz.ntmps146
 go_wp2
 go_region_with (first
  | (go_at_call 145; refine (token_any (h.below (Below.refl _ _).drew) hg).mono ?_; rintro e w1 ⟨rfl, hb⟩)
  | (go_at_call 148; refine (tell_any ((h.below (Below.refl _ _).drew).below hb) c _).mono ?_; rintro e w2 ⟨rfl, hP2, hk2⟩))
 have ht := hP2.toks
 have hn := hP2.next
 have hf := hP2.frz 3
 go_wp2
 go_end0
 have hR := hP2.setNext (T.length - 1)
 have eN : (((T.length - 1 : Nat)) : Int) = (T.length : Int) - 1 := by omega
 rw [eN] at hR
 exact ⟨rfl, hR, (((Par.of_below (Below.refl _ _).drew).trans (Par.of_below hb)).trans hk2).setCell _ _⟩
theorem want_any (h : PW pb tb cap T w s) (hg : Good T s) (f : ByteArray) :
  Calls Tryz.prog 144 #[.pointer (some ⟨pb, 0, none⟩), .string f] w fun e w' => e = .returned (.tuple #[]) /\ PW pb tb cap T w' (want T f s) /\ Par pb w w' := by
 cases hs : sees T f s with
 | true =>
  have hK := take_yes h hg f hs
  have e : want T f s = adv s := by simp [want, hs]
  rw [e]; clear e hs
  go_enter Tryz.func144, Tryz.ntmps144
  go_wp2_with (go_at_call 165; refine hK.mono ?_; rintro e w1 ⟨rfl, hP1, hk1⟩)
  go_end0
  exact ⟨rfl, hP1, hk1⟩
 | false =>
  have hK := take_no h hg f hs
  have e : want T f s = fails T 4 s := by simp [want, hs]
  rw [e]; clear e hs
  go_enter Tryz.func144, Tryz.ntmps144
  go_wp2_with (first | (go_at_call 165; refine hK.mono ?_; rintro e w1 ⟨rfl, hP1, hk1⟩) | (go_at_call 146; refine (fail_any hP1 hg 4).mono ?_; rintro e w2 ⟨rfl, hP2, hk2⟩))
  go_end0
  exact ⟨rfl, hP2, hk1.trans hk2⟩
theorem p_eq_name (k : TK) : (k.p == 1) = decide (k = .name) := by cases k <;> rfl
theorem p_eq_num (k : TK) : (k.p == 2) = decide (k = .number) := by cases k <;> rfl
theorem kind_name (s : PS) : ((cur T s).kind.p == 1) = kindIs T .name s := p_eq_name _
theorem kind_num (s : PS) : ((cur T s).kind.p == 2) = kindIs T .number s := p_eq_num _
theorem PW.setOther (h : PW pb tb cap T w s) (a : Addr) (v : Value) (h1 : a.block ≠ pb) (h2 : a.block ≠ tb) : PW pb tb cap T (w.setCell a v) s := by
 have e : ∀ o, (w.setCell a v).cell? ⟨pb, o, none⟩ = w.cell? ⟨pb, o, none⟩ := fun o => World.cell?_setCell_other _ _ _ _ (fun e => h1 (by rw [e]))
 exact ⟨by rw [e]; exact h.code, by rw [e]; exact h.at_, by rw [e]; exact h.toks, by rw [e]; exact h.next,
  fun o => by rw [World.frozen?_setCell]; exact h.frz o,
  fun j u hj => by rw [World.cell?_setCell_other _ _ _ _ (fun e => h2 (by rw [e]))]; exact h.tok j u hj, h.ne, by simp [World.setCell]; exact h.tlt, h.size⟩
theorem PW.alloc (h : PW pb tb cap T w s) (o : Obj) : PW pb tb cap T (w.alloc o) s := h.below ((Below.refl _ _).alloc (Nat.le_refl _) _)
theorem wantKind_yes (h : PW pb tb cap T w s) (hg : Good T s) (k : Int) (hk : (cur T s).kind.p = k) :
  Calls Tryz.prog 203 #[.pointer (some ⟨pb, 0, none⟩), .int .i64 k] w fun e w' => e = .returned (.agg #[.int .i64 k, .string (cur T s).text, .int .i64 (cur T s).val, .int .i64 (cur T s).pos]) /\ PW pb tb cap T w' (adv s) /\ Par pb w w' := by
 have hK := fun o => token_any (h.alloc o) hg
 rw [hk] at hK
 have hsz := h.size
 have hg' : s.next < T.length := hg
 have hl := h.lt
 have htl := h.tlt
 generalize (cur T s).text = tx at *
 generalize (cur T s).val = vv at *
 generalize (cur T s).pos = pp at *
 clear hk
 go_enter Tryz.func203, Tryz.ntmps203
 go_wp2_with (go_at_call 145; refine (hK _).mono ?_; rintro e w1 ⟨rfl, hb⟩; have hP := (h.alloc _).below hb; have hn := hP.next; have hf := hP.frz 3; have hl1 := hP.lt; obtain ⟨hcc, hff⟩ := bcell hb; have hs1 : w.heap.size < w1.heap.size := by (have := hb.size; simp at this; omega))
 refine bodyPost_ret (v := .agg #[.int .i64 k, .string tx, .int .i64 vv, .int .i64 pp]) (by simp [results, Tryz.results203, go_sem, hcc, hs1]) rfl ⟨rfl, ?_⟩
 go_light
 refine ⟨((((((hP.setNext (s.next + 1)).setOther _ _ ?_ ?_).setOther _ _ ?_ ?_).setOther _ _ ?_ ?_).setOther _ _ ?_ ?_).alloc _), ((((((((Par.refl _ _).alloc _).trans (Par.of_below hb)).setCell _ _).setNew ?_ _).setNew ?_ _).setNew ?_ _).setNew ?_ _).alloc _⟩
 all_goals (simp; try omega)
end
theorem Par.new {pb : Nat} {w w2 : World} {c : Array Value} {t : TypeId} (hl : pb < w.heap.size) (hk : Par pb (w.alloc (.cells c t)) w2) :
  (∀ o, w2.cell? ⟨w.heap.size, o, none⟩ = c[o]?) /\ (∀ o, w2.frozen? ⟨w.heap.size, o, none⟩ = false) /\ w.heap.size < w2.heap.size := by
 have hs := hk.size
 rw [show (w.alloc (.cells c t)).heap.size = w.heap.size + 1 from by simp] at hs
 refine ⟨fun o => ?_, fun o => ?_, by omega⟩
 ·rw [hk.cell (p := ⟨w.heap.size, o, none⟩) (by simp) (by show w.heap.size ≠ pb; omega)]; exact World.cell?_alloc_new w c t o
 ·rw [hk.frozen (p := ⟨w.heap.size, o, none⟩) (by simp) (by show w.heap.size ≠ pb; omega)]; exact World.frozen?_alloc_new w c t o
section
variable {pb tb cap : Nat} {T : List Tok} {w : World} {s : PS}
theorem wantKind_no (h : PW pb tb cap T w s) (hg : Good T s) (k : Int) (hk : ((cur T s).kind.p != k) = true) :
  Calls Tryz.prog 203 #[.pointer (some ⟨pb, 0, none⟩), .int .i64 k] w fun e w' => e = .returned (.agg #[.int .i64 0, .string ⟨#[]⟩, .int .i64 0, .int .i64 0]) /\ PW pb tb cap T w' (fails T 4 s) /\ Par pb w w' := by
 have hK := fun o => token_any (h.alloc o) hg
 have hl := h.lt
 have htl := h.tlt
 generalize (cur T s).kind.p = kk at *
 generalize (cur T s).text = tx at *
 generalize (cur T s).val = vv at *
 generalize (cur T s).pos = pp at *
 go_enter Tryz.func203, Tryz.ntmps203
 go_wp2_with (first
  | (go_at_call 145; refine (hK _).mono ?_; rintro e w1 ⟨rfl, hb⟩; have hP := (h.alloc _).below hb)
  | (go_at_call 146; refine (fail_any (hP.alloc _) hg 4).mono ?_; rintro e w2 ⟨rfl, hP2, hk2⟩
     have hk3 := ((Par.of_below (pb := pb) hb).alloc _).trans hk2
     obtain ⟨q0, q1, hs2⟩ := hk3.new hl))
 refine bodyPost_ret (v := .agg #[.int .i64 0, .string ⟨#[]⟩, .int .i64 0, .int .i64 0]) (by simp [results, Tryz.results203, go_sem, q0]) rfl ⟨rfl, ?_⟩
 go_light
 refine ⟨(((hP2.setOther _ _ ?_ ?_).setOther _ _ ?_ ?_).setOther _ _ ?_ ?_).setOther _ _ ?_ ?_, ((((((Par.refl _ _).alloc _).trans hk3).setNew ?_ _).setNew ?_ _).setNew ?_ _).setNew ?_ _⟩
 all_goals (simp; try omega)
theorem name_any (h : PW pb tb cap T w s) (hg : Good T s) :
  Calls Tryz.prog 189 #[.pointer (some ⟨pb, 0, none⟩)] w fun e w' => e = .returned (.agg #[.string (nameP T s).1.1, .int .i64 (nameP T s).1.2]) /\ PW pb tb cap T w' (nameP T s).2 /\ Par pb w w' := by
 have hl := h.lt
 have htl := h.tlt
 cases hk : kindIs T .name s with
 | true =>
  have e : nameP T s = (((cur T s).text, (cur T s).pos), adv s) := by simp [nameP, hk]
  rw [e]
  have hk' : (cur T s).kind.p = 1 := by have := kind_name (T := T) s; rw [hk] at this; simpa using this
  have hW := fun o => wantKind_yes (h.alloc o) hg 1 hk'
  clear e hk hk'
  go_enter Tryz.func189, Tryz.ntmps189
  go_wp2_with (go_at_call 203; refine (hW _).mono ?_; rintro e w1 ⟨rfl, hP1, hk1⟩; obtain ⟨q0, q1, hs2⟩ := hk1.new hl)
  refine bodyPost_ret (v := .agg #[.string (cur T s).text, .int .i64 (cur T s).pos]) (by simp [results, Tryz.results189, go_sem, q0, hs2]) rfl ⟨rfl, ?_⟩
  go_light
  refine ⟨((hP1.setOther _ _ ?_ ?_).setOther _ _ ?_ ?_).alloc _, ((((Par.refl _ _).alloc _).trans hk1).setNew ?_ _).setNew ?_ _ |>.alloc _⟩
  all_goals (simp; try omega)
 | false =>
  have e : nameP T s = ((⟨#[]⟩, 0), fails T 4 s) := by simp [nameP, hk]
  rw [e]
  have hk' : ((cur T s).kind.p != 1) = true := by have := kind_name (T := T) s; rw [hk] at this; simp at this; simpa using this
  have hW := fun o => wantKind_no (h.alloc o) hg 1 hk'
  clear e hk hk'
  go_enter Tryz.func189, Tryz.ntmps189
  go_wp2_with (go_at_call 203; refine (hW _).mono ?_; rintro e w1 ⟨rfl, hP1, hk1⟩; obtain ⟨q0, q1, hs2⟩ := hk1.new hl)
  refine bodyPost_ret (v := .agg #[.string ⟨#[]⟩, .int .i64 0]) (by simp [results, Tryz.results189, go_sem, q0, hs2]) rfl ⟨rfl, ?_⟩
  go_light
  refine ⟨((hP1.setOther _ _ ?_ ?_).setOther _ _ ?_ ?_).alloc _, ((((Par.refl _ _).alloc _).trans hk1).setNew ?_ _).setNew ?_ _ |>.alloc _⟩
  all_goals (simp; try omega)
theorem tooDeep_no (d : Int) (hd : d <= 14) (w : World) (pb : Nat) :
  Calls Tryz.prog 204 #[.pointer (some ⟨pb, 0, none⟩), .int .i64 d] w fun e w' => e = .returned (.bool false) /\ w' = w := by
 go_enter Tryz.func204, Tryz.ntmps204
 go_wp2
 go_ret
 exact ⟨rfl, rfl⟩
theorem tooDeep_yes (h : PW pb tb cap T w s) (hg : Good T s) (d : Int) (hd : 14 < d) :
  Calls Tryz.prog 204 #[.pointer (some ⟨pb, 0, none⟩), .int .i64 d] w fun e w' => e = .returned (.bool true) /\ PW pb tb cap T w' (fails T 5 s) /\ Par pb w w' := by
 have hd' : ¬ d <= 14 := by omega
 go_enter Tryz.func204, Tryz.ntmps204
 go_wp2_with (go_at_call 146; refine (fail_any h hg 5).mono ?_; rintro e w2 ⟨rfl, hP2, hk2⟩)
 go_ret
 exact ⟨rfl, hP2, hk2⟩
end
def StrsAt (w : World) (b : Nat) (fs : List ByteArray) : Prop := ∀ j f, fs[j]? = some f -> w.cell? ⟨b, j, none⟩ = some (.string f)
theorem StrsAt.par {w w' : World} {b pb : Nat} {fs : List ByteArray} (h : StrsAt w b fs) (hk : Par pb w w') (hn : b ≠ pb) : StrsAt w' b fs := fun j f hj => by
 have hc := h j f hj
 rw [hk.cell (p := ⟨b, j, none⟩) (lt_of_cell hc) hn]; exact hc
def idxS (fs : List ByteArray) (x : ByteArray) : Int := Lib.idxOfS fs x
theorem slicesIndex_any (b c : Nat) (fs : List ByteArray) (x : ByteArray) (w : World) (hbig : fs.length <= 600) (hc : StrsAt w b fs) :
  Calls Tryz.prog 226 #[.slice (some ⟨b, 0, none⟩) fs.length c, .string x] w fun e w' => e = .returned (.int .i64 (idxS fs x)) /\ w' = w := by
 go_enter Tryz.func226, Tryz.ntmps226
 go_wp2
 go_loop [5, 8] (fun _ i => ∃ k : Nat, k <= fs.length /\ i = .int .i64 k /\ ∀ j, j < k -> fs.getD j ByteArray.empty ≠ x) (fun _ i => fs.length - (intOf i).toNat)
 case atStart => exact ⟨0, Nat.zero_le _, rfl, fun j hj => absurd hj (Nat.not_lt_zero _)⟩
 case round =>
  obtain ⟨k, hk, rfl, hne⟩ := hrel
  have HN : Hid (∀ j, j < k -> fs.getD j ByteArray.empty ≠ x) := hne
  clear hne
  by_cases hlt : k < fs.length
  ·have hcell : w.cell? ⟨b, k, none⟩ = some (.string fs[k]) := hc k fs[k] (List.getElem?_eq_getElem hlt)
   have ek : fs.getD k ByteArray.empty = fs[k] := by rw [List.getD_eq_getElem?_getD, List.getElem?_eq_getElem hlt]; rfl
   have EK : Hid (fs.getD k ByteArray.empty = fs[k]) := ek
   clear ek hc
   generalize fs[k] = fk at *
   go_wp2
   ·have heq : (x.toList == fk.toList) = true := by assumption
    go_ret
    refine ⟨ret_int ?_, rfl⟩
    have e := (Lib.bytes_beq_iff _ _).1 heq
    have := Lib.idxOfS_hit fs fs.length k x hlt (Nat.le_refl _) (by rw [EK.out]; exact e.symm) HN.out
    rw [List.take_length] at this
    exact this.symm
   ·have heq : (x.toList == fk.toList) = false := by assumption
    go_round
    case rel => exact ⟨k + 1, by omega, by go_num, fun j hj => by
     by_cases e : j = k
     ·subst e; rw [EK.out]; exact fun h => (Lib.bytes_beq_false_iff _ _).1 heq h.symm
     ·exact HN.out j (by omega)⟩
    case measure => simp [intOf]; omega
  ·have ek : k = fs.length := by omega
   go_wp2
   go_ret
   refine ⟨ret_int ?_, rfl⟩
   have := Lib.idxOfS_miss fs k x HN.out
   rw [ek, List.take_length] at this
   exact this.symm
theorem containsS_any (T : List Tok) (fs : List ByteArray) (s : PS) : Lib.containsS fs (cur T s).text = seesAny T fs s := by
 rw [Bool.eq_iff_iff, Lib.containsS_iff]
 unfold seesAny sees
 rw [List.any_eq_true]
 constructor
 ·intro h; exact ⟨_, h, (Lib.bytes_beq_iff _ _).2 rfl⟩
 ·rintro ⟨f, hf, h⟩; rw [(Lib.bytes_beq_iff _ _).1 h]; exact hf
theorem contains_any (b c : Nat) (fs : List ByteArray) (x : ByteArray) (w : World) (hbig : fs.length <= 600) (hc : StrsAt w b fs) :
  Calls Tryz.prog 223 #[.slice (some ⟨b, 0, none⟩) fs.length c, .string x] w fun e w' => e = .returned (.bool (Lib.containsS fs x)) /\ w' = w := by
 unfold Lib.containsS
 go_enter Tryz.func223, Tryz.ntmps223
 go_wp2_with (go_at_call 226; refine (slicesIndex_any b c fs x _ hbig hc).mono ?_; rintro e w' ⟨rfl, rfl⟩)
 go_ret
 exact ⟨rfl, rfl⟩
section
variable {pb tb cap : Nat} {T : List Tok} {w : World} {s : PS}
theorem seesAny_any (h : PW pb tb cap T w s) (hg : Good T s) (b c : Nat) (fs : List ByteArray) (hbig : fs.length <= 600) (hc : StrsAt w b fs) (hn : b ≠ pb) :
  Calls Tryz.prog 218 #[.pointer (some ⟨pb, 0, none⟩), .slice (some ⟨b, 0, none⟩) fs.length c] w fun e w' => e = .returned (.bool (seesAny T fs s)) /\ PW pb tb cap T w' s /\ Par pb w w' := by
 rw [<- containsS_any]
 have hF := tokField1
 go_enter Tryz.func218, Tryz.ntmps218
 go_wp2_with (first
  | (go_at_call 145; refine (token_any h hg).mono ?_; rintro e w1 ⟨rfl, hb⟩)
  | (go_at_call 223; refine (contains_any b c fs _ _ hbig (hc.par (Par.of_below hb) hn)).mono ?_; rintro e w2 ⟨rfl, h2⟩; obtain rfl := h2.symm))
 go_ret
 exact ⟨rfl, h.below hb, Par.of_below hb⟩
end
def From (lo : Nat) : Nat -> Prop := fun b => lo <= b
def SliceV (Q : Nat -> Prop) (w : World) (v : Value) (vs : List Value) : Prop :=
 (v = .slice none 0 0 /\ vs = []) ∨ ∃ b cap, v = .slice (some ⟨b, 0, none⟩) vs.length cap /\ Q b /\ b < w.heap.size /\ ∀ j x, vs[j]? = some x -> w.cell? ⟨b, j, none⟩ = some x
def KeepQ (Q : Nat -> Prop) (w w' : World) : Prop := w.heap.size <= w'.heap.size /\ ∀ b, Q b -> b < w.heap.size -> w'.heap[b]? = w.heap[b]?
theorem Par.keepQ {pb lo : Nat} {w w' : World} (hk : Par pb w w') (h : pb < lo) : KeepQ (From lo) w w' :=
 ⟨hk.size, fun b hb hl => hk.block b hl (by unfold From at hb; omega)⟩
theorem KeepQ.weak {Q Q' : Nat -> Prop} {w w' : World} (h : KeepQ Q w w') (hq : ∀ b, Q' b -> Q b) : KeepQ Q' w w' := ⟨h.1, fun b hb hl => h.2 b (hq b hb) hl⟩
theorem SliceV.keep {Q : Nat -> Prop} {w w' : World} {v : Value} {vs : List Value} (h : SliceV Q w v vs) (hk : KeepQ Q w w') : SliceV Q w' v vs := by
 rcases h with h | ⟨b, cap, hv, hn, hl, hc⟩
 ·exact .inl h
 ·refine .inr ⟨b, cap, hv, hn, Nat.lt_of_lt_of_le hl hk.1, fun j x hj => ?_⟩
  rw [World.cell?_of_block (w := w) (hk.2 b hn hl)]; exact hc j x hj
theorem SliceV.weak {Q Q' : Nat -> Prop} {w : World} {v : Value} {vs : List Value} (h : SliceV Q w v vs) (hq : ∀ b, Q b -> b < w.heap.size -> Q' b) : SliceV Q' w v vs := by
 rcases h with h | ⟨b, cap, hv, hn, hl, hc⟩
 ·exact .inl h
 ·exact .inr ⟨b, cap, hv, hq b hn hl, hl, hc⟩
inductive REx (Q : Nat -> Prop) (w : World) : Value -> Ex -> Prop
 | nil : REx Q w .nilIface .nil
 | num (v : Nat) : REx Q w (.iface 283 (.agg #[.int .i64 v])) (.num v)
 | var (n : ByteArray) (p : Nat) : REx Q w (.iface 284 (.agg #[.string n, .int .i64 p])) (.var n p)
 | elem (n : ByteArray) (p : Nat) {vi : Value} {i : Ex} : REx Q w vi i -> REx Q w (.iface 286 (.agg #[.string n, .int .i64 p, vi])) (.elem n p i)
 | call (n : ByteArray) (p : Nat) {va : Value} {vs : List Value} {args : List Ex} : SliceV Q w va vs -> vs.length = args.length -> (∀ (j : Nat) v e, vs[j]? = some v -> args[j]? = some e -> REx Q w v e) ->
    REx Q w (.iface 287 (.agg #[.string n, .int .i64 p, va])) (.call n p args)
 | bin (op : ByteArray) {vl vr : Value} {l r : Ex} : REx Q w vl l -> REx Q w vr r -> REx Q w (.iface 289 (.agg #[.string op, vl, vr])) (.bin op l r)
 | un (op : ByteArray) {ve : Value} {e : Ex} : REx Q w ve e -> REx Q w (.iface 292 (.agg #[.string op, ve])) (.un op e)
theorem REx.keep {Q : Nat -> Prop} {w w' : World} {v : Value} {e : Ex} (h : REx Q w v e) (hk : KeepQ Q w w') : REx Q w' v e := by
 induction h with
 | nil => exact .nil
 | num v => exact .num v
 | var n p => exact .var n p
 | elem n p _ ih => exact .elem n p ih
 | call n p hs hl _ ih => exact .call n p (hs.keep hk) hl ih
 | bin op _ _ ih1 ih2 => exact .bin op ih1 ih2
 | un op _ ih => exact .un op ih
theorem REx.weak {Q Q' : Nat -> Prop} {w : World} {v : Value} {e : Ex} (h : REx Q w v e) (hq : ∀ b, Q b -> b < w.heap.size -> Q' b) : REx Q' w v e := by
 induction h with
 | nil => exact .nil
 | num v => exact .num v
 | var n p => exact .var n p
 | elem n p _ ih => exact .elem n p ih
 | call n p hs hl _ ih => exact .call n p (hs.weak hq) hl ih
 | bin op _ _ ih1 ih2 => exact .bin op ih1 ih2
 | un op _ ih => exact .un op ih
theorem REx.up {lo lo' : Nat} {w : World} {v : Value} {e : Ex} (h : REx (From lo') w v e) (hl : lo <= lo') : REx (From lo) w v e := h.weak fun b hb _ => by unfold From at *; omega
theorem REx.cells {Q : Nat -> Prop} {w : World} {v : Value} {e : Ex} (h : REx Q w v e) : ∀ cs, v = .agg cs -> False := by cases h <;> (intro cs hc; cases hc)
theorem REx.one {Q : Nat -> Prop} {w : World} {v : Value} {e : Ex} (h : REx Q w v e) : v.oneCell' = true := by cases h <;> rfl
def Enters (F : Nat) : Prop := ∀ (args : Array Value) (w : World), (callFunc F args).run Tryz.prog w = .ok (.enter F args) w
def ExOK (pb tb cap : Nat) (T : List Tok) (F : Nat) (d : Int) (pf : PS -> Ex × PS) : Prop :=
 ∀ w s, PW pb tb cap T w s -> Good T s -> Calls Tryz.prog F #[.pointer (some ⟨pb, 0, none⟩), .int .i64 d] w fun e w' => ∃ v, e = .returned v /\ REx (From w.heap.size) w' v (pf s).1 /\ PW pb tb cap T w' (pf s).2 /\ Par pb w w'
theorem enters_of {F : Nat} {fn : Func} (hf : Tryz.prog.funcs[F]? = some fn) (hname : (fn.name == "runtime.NumGoroutine") = false) (hb : fn.body.isSome = true) : Enters F := by
 intro args w
 have h1 : fn.name ≠ "runtime.NumGoroutine" := by simpa using hname
 obtain ⟨c, h2⟩ := Option.isSome_iff_exists.1 hb
 simp [callFunc, hf, h1, h2]
theorem enters_factor : Enters 229 := enters_of Tryz.func229 (by kernel_rfl) (by kernel_rfl)
section
variable {pb tb cap : Nat} {T : List Tok} {w : World} {s : PS}
theorem join_any (h : PW pb tb cap T w s) (hg : Good T s) (hga : Good T (adv s)) {F : Nat} {d : Int} {pf : PS -> Ex × PS} (hE : Enters F) (hF : ExOK pb tb cap T F d pf) {vl : Value} {l : Ex} {lo : Nat} (hl : REx (From lo) w vl l) (hlo : pb < lo) (hlw : lo <= w.heap.size) :
  Calls Tryz.prog 219 #[.pointer (some ⟨pb, 0, none⟩), vl, .func (.func F) #[.pointer (some ⟨pb, 0, none⟩)] #[], .int .i64 d] w fun e w' =>
   ∃ v, e = .returned v /\ REx (From lo) w' v (.bin (cur T s).text l (pf (adv s)).1) /\ PW pb tb cap T w' (pf (adv s)).2 /\ Par pb w w' := by
 have hF1 := tokField1
 have hsz := h.size
 have hg' : s.next < T.length := hg
 have hcl := hl.cells
 have hE' : ∀ (args : Array Value) (w : World), (callFunc F args).run Tryz.prog w = .ok (.enter F args) w := hE
 go_enter Tryz.func219, Tryz.ntmps219
 go_wp2_with (first
  | (go_at_call 145; refine (token_any h hg).mono ?_; rintro e w1 ⟨rfl, hb⟩; have hP := h.below hb; have hn := hP.next; have hf := hP.frz 3; have hP2 := hP.setNext (s.next + 1))
  | (refine (hF _ _ hP2 hga).mono ?_; rintro e w3 ⟨v3, rfl, hR3, hP3, hk3⟩; have hc3 := hR3.cells))
 go_ret
 have hkk := ((Par.of_below (pb := pb) hb).setCell 3 (.int .i64 ((s.next + 1 : Nat) : Int))).trans hk3
 exact ⟨_, rfl, .bin _ (hl.keep (hkk.keepQ hlo)) (hR3.up (by have := hb.size; simp [World.setCell]; omega)), hP3, hkk⟩
end
end Go.Proofs.YtklobognaldjpaaGreat
