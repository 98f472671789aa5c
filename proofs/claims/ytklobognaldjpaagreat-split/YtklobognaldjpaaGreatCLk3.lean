/- The program's maps from names to what is known of them. The program's look at names: its smallest functions. What an interface value holds. The program's look at names: expressions. The program's look -/
import Derived.Test.YtklobognaldjpaaGreatCParse5
import Derived.Test.YtklobognaldjpaaGreatCOk2
import Derived.Maps.Own
import Derived.Maps.Keyed
import Derived.Maps.Views
import Derived.StringKeys
import Derived.Maps.OwnSet
import Derived.Deep.RegionWith
import Derived.Deep.QuietTactic
import Derived.BigQuiet
import Derived.Test.YtklobognaldjpaaGreatCStmt4
import Derived.Test.YtklobognaldjpaaGreatCDecl4
set_option maxHeartbeats 1000000
set_option maxRecDepth 100000
namespace Go.Proofs.YtklobognaldjpaaGreat
open Go.RowKit
def symV (s : Nat × Nat) : Value := .agg #[.int .i64 s.1, .int .i64 s.2]
def symR : Value -> Option (DataW Value × List MemPlace) := fun v => some (.held v, [])
def MapIs (w : World) (b n : Nat) (f : ByteArray -> Nat × Nat) : Prop :=
 ∃ D : DataW Value, w.ownsMap Tryz.prog 9 symR b n D /\ Maps.IsMap D /\ ∀ key : ByteArray, key.size <= maxLen -> D.atKey (.string key.data.toList) (.held (symV (0, 0))) = .held (symV (f key))
theorem Tryz.keyedStr : Maps.Keyed Tryz.prog 9 := Maps.string_keyed Tryz.underlying9
theorem MapIs.lt {w : World} {b n : Nat} {f : ByteArray -> Nat × Nat} (h : MapIs w b n f) : b < w.heap.size := by obtain ⟨D, h1, _⟩ := h; exact h1.lt
theorem MapIs.block {w w' : World} {b n : Nat} {f : ByteArray -> Nat × Nat} (h : MapIs w b n f) (hb : w'.heap[b]? = w.heap[b]?) : MapIs w' b n f := by
 obtain ⟨D, ⟨es, clock, h1, h4, h5, h6⟩, h2, h3⟩ := h
 exact ⟨D, ⟨es, clock, by rw [hb]; exact h1, h4, h5, h6⟩, h2, h3⟩
theorem MapIs.par {lb : Nat} {w w' : World} {b n : Nat} {f : ByteArray -> Nat × Nat} (h : MapIs w b n f) (hk : Par lb w w') (hne : b ≠ lb) : MapIs w' b n f := h.block (hk.block b h.lt hne)
theorem mapIs_made (w : World) : MapIs (w.alloc (.map #[] 0)) w.heap.size 0 (fun _ => (0, 0)) :=
 ⟨.map [], World.ownsMap_made w _ _ _, Maps.isMap_empty, fun _ _ => rfl⟩
theorem Tryz.zeroSym (w : World) : (zeroValue 240).run Tryz.prog w = .ok (symV (0, 0)) w := by
 have h : (Tryz.prog.info? 240).map (fun i => i.zero) = some (some (symV (0, 0))) := by kernel_rfl
 obtain ⟨i, hi, hz⟩ := Option.map_eq_some_iff.1 h
 simp [zeroValue, typeInfo, hi, hz]
theorem MapIs.lookup {w : World} {b n : Nat} {f : ByteArray -> Nat × Nat} (h : MapIs w b n f) {key : ByteArray} (hk : key.size <= maxLen) :
  (Instr.lookup 201 (.map (some b)) (.string key) false).run Tryz.prog w = .ok (symV (f key)) w := by
 obtain ⟨D, h1, _, h3⟩ := h
 obtain ⟨v, ps, hrun, hv⟩ := h1.lookup Tryz.keyedStr Tryz.underlying201 (Tryz.zeroSym w) (zd := .held (symV (0, 0))) (zp := []) rfl (WideMaps.keyOf_string_mk Tryz.underlying9 hk)
 rw [h3 key hk] at hv
 unfold symR at hv
 simp only [Option.some.injEq, Prod.mk.injEq, DataW.held.injEq] at hv
 rw [<- hv.1]
 exact hrun
theorem MapIs.update {w : World} {b n : Nat} {f : ByteArray -> Nat × Nat} (h : MapIs w b n f) {key : ByteArray} (hk : key.size <= maxLen) (hn : n < maxLen) (s : Nat × Nat) :
  ∃ w', (Instr.mapUpdate 201 (.map (some b)) (.string key) (symV s)).run Tryz.prog w = .ok () w' /\ MapIs w' b (n + 1) (putSym f key s) /\ w.grownBy w' (some b) := by
 obtain ⟨D, h1, h2, h3⟩ := h
 have hkey := WideMaps.keyOf_string_mk (P := Tryz.prog) Tryz.underlying9 hk
 obtain ⟨w', hr, h4, h5⟩ := h1.update Tryz.keyedStr Tryz.underlying201 hn hkey (val := symV s) (d := .held (symV s)) (ps := []) rfl
 refine ⟨w', hr, ⟨_, h4, h2.put _ _, fun key2 hk2 => ?_⟩, h5⟩
 unfold putSym
 by_cases e : (key.toList == key2.toList) = true
 ·have e2 : key.toList = key2.toList := by simpa using e
  rw [if_pos e]
  rw [Lib.toList_data, Lib.toList_data] at e2
  rw [<- e2]
  exact Maps.atKey_put_same h2 (Tryz.keyedStr.key hkey) _ _
 ·rw [if_neg e]
  have e2 : key2.data.toList ≠ key.data.toList := fun e3 => e (by rw [Lib.toList_data, Lib.toList_data, e3]; simp)
  rw [Maps.atKey_put_other (by intro e3; injection e3 with e4; exact e2 e4)]
  exact h3 key2 hk2
structure PL (lb gm ng nl : Nat) (lm : Option Nat) (w : World) (c : Nat × Nat) (L : PEnv) : Prop where
 code : w.cell? ⟨lb, 0, none⟩ = some (.int .i64 c.1)
 at_ : w.cell? ⟨lb, 1, none⟩ = some (.int .i64 c.2)
 gl : w.cell? ⟨lb, 2, none⟩ = some (.map (some gm))
 lo : w.cell? ⟨lb, 3, none⟩ = some (.map lm)
 rs : w.cell? ⟨lb, 4, none⟩ = some (.string L.res)
 frz : ∀ o, w.frozen? ⟨lb, o, none⟩ = false
 gmap : MapIs w gm ng L.g
 lmap : ∀ b, lm = some b -> MapIs w b nl L.l
 lnil : lm = none -> ∀ n, L.l n = (0, 0)
 gne : gm ≠ lb
 lne : ∀ b, lm = some b -> b ≠ lb /\ b ≠ gm
section
variable {lb gm ng nl : Nat} {lm : Option Nat} {w w' : World} {c : Nat × Nat} {L : PEnv}
theorem PL.lt (h : PL lb gm ng nl lm w c L) : lb < w.heap.size := lt_of_cell h.code
theorem PL.below (h : PL lb gm ng nl lm w c L) (hb : Below w.heap.size w w') : PL lb gm ng nl lm w' c L := by
 have e : ∀ o, w'.cell? ⟨lb, o, none⟩ = w.cell? ⟨lb, o, none⟩ := fun o => hb.cell (p := ⟨lb, o, none⟩) h.lt
 exact ⟨by rw [e]; exact h.code, by rw [e]; exact h.at_, by rw [e]; exact h.gl, by rw [e]; exact h.lo, by rw [e]; exact h.rs, fun o => by rw [hb.frozen (p := ⟨lb, o, none⟩) h.lt]; exact h.frz o,
  h.gmap.block (hb.block gm h.gmap.lt), fun b hb2 => (h.lmap b hb2).block (hb.block b (h.lmap b hb2).lt), h.lnil, h.gne, h.lne⟩
theorem PL.setTell (h : PL lb gm ng nl lm w c L) (x : Nat × Nat) : PL lb gm ng nl lm ((w.setCell ⟨lb, 0, none⟩ (.int .i64 x.1)).setCell ⟨lb, 1, none⟩ (.int .i64 x.2)) x L := by
 have bl : ∀ b, b ≠ lb -> ((w.setCell ⟨lb, 0, none⟩ (.int .i64 x.1)).setCell ⟨lb, 1, none⟩ (.int .i64 x.2)).heap[b]? = w.heap[b]? := fun b hb => by rw [Below.heap_setCell _ _ _ _ hb, Below.heap_setCell _ _ _ _ hb]
 refine ⟨?_, ?_, ?_, ?_, ?_, ?_, h.gmap.block (bl _ h.gne), fun b hb => (h.lmap b hb).block (bl _ (h.lne b hb).1), h.lnil, h.gne, h.lne⟩
 ·rw [World.cell?_setCell_other _ _ _ _ (by simp)]; exact World.cell?_setCell_same _ _ _ h.code
 ·exact World.cell?_setCell_same _ _ _ (by rw [World.cell?_setCell_other _ _ _ _ (by simp)]; exact h.at_)
 ·rw [World.cell?_setCell_other _ _ _ _ (by simp), World.cell?_setCell_other _ _ _ _ (by simp)]; exact h.gl
 ·rw [World.cell?_setCell_other _ _ _ _ (by simp), World.cell?_setCell_other _ _ _ _ (by simp)]; exact h.lo
 ·rw [World.cell?_setCell_other _ _ _ _ (by simp), World.cell?_setCell_other _ _ _ _ (by simp)]; exact h.rs
 ·intro o; rw [World.frozen?_setCell, World.frozen?_setCell]; exact h.frz o
theorem ltell_any (h : PL lb gm ng nl lm w c L) (k p : Nat) :
  Calls Tryz.prog 148 #[.pointer (some ⟨lb, 0, none⟩), .int .i64 k, .int .i64 p] w fun e w' => e = .returned (.tuple #[]) /\ PL lb gm ng nl lm w' (tellF (some (k, p)) c) L /\ Par lb w w' := by
 have hc := h.code
 have ha := h.at_
 have h0 := h.frz 0
 have h1 := h.frz 1
 by_cases hz : c.1 = 0
 ·have e : tellF (some (k, p)) c = (k, p) := by simp [tellF, hz]
  rw [e]
  rw [hz] at hc
  clear e
  go_enter Tryz.func148, Tryz.ntmps148
  go_wp2
  go_end0
  exact ⟨rfl, h.setTell (k, p), ((Par.refl _ _).setCell _ _).setCell _ _⟩
 ·have e : tellF (some (k, p)) c = c := by simp [tellF, hz]
  rw [e]
  have hz' : ((c.1 : Int) == 0) = false := by simp; omega
  clear e hz
  go_enter Tryz.func148, Tryz.ntmps148
  go_wp2
  go_end0
  exact ⟨rfl, h, Par.refl _ _⟩
theorem nilLookup (w : World) {key : ByteArray} (hk : key.size <= maxLen) : (Instr.lookup 201 (.map none) (.string key) false).run Tryz.prog w = .ok (symV (0, 0)) w :=
 Maps.look_nil false Tryz.keyedStr Tryz.underlying201 (Tryz.zeroSym w) (WideMaps.keyOf_string_mk Tryz.underlying9 hk)
theorem find_sym (h : PL lb gm ng nl lm w c L) {n : ByteArray} (hn : n.size <= maxLen) (p : Nat) :
  Calls Tryz.prog 192 #[.pointer (some ⟨lb, 0, none⟩), .agg #[.string n, .int .i64 p]] w fun e w' => e = .returned (symV (L.find n)) /\ Below w.heap.size w w' := by
 have hlt := h.lt
 have hgc := h.gl
 have hlc := h.lo
 have k2 : ∀ A B, Below w.heap.size w ((w.alloc A).alloc B).drew := fun A B => (((Below.refl _ _).alloc (Nat.le_refl _) _).alloc (by simp) _).drew
 have k3 : ∀ A B C, Below w.heap.size w (((w.alloc A).alloc B).alloc C).drew := fun A B C => ((((Below.refl _ _).alloc (Nat.le_refl _) _).alloc (by simp) _).alloc (by simp; omega) _).drew
 have hG : ∀ A B C, (Instr.lookup 201 (.map (some gm)) (.string n) false).run Tryz.prog (((w.alloc A).alloc B).alloc C).drew.drew = .ok (symV (L.g n)) (((w.alloc A).alloc B).alloc C).drew.drew := fun A B C => (h.below (k3 A B C).drew).gmap.lookup hn
 have hL2 : ∀ A B, (Instr.lookup 201 (.map lm) (.string n) false).run Tryz.prog ((w.alloc A).alloc B).drew = .ok (symV (L.l n)) ((w.alloc A).alloc B).drew := fun A B => by
  cases hlm : lm with
  | none => rw [h.lnil hlm n]; exact nilLookup _ hn
  | some b => exact ((h.below (k2 A B)).lmap b hlm).lookup hn
 have hL3 : ∀ A B C, (Instr.lookup 201 (.map lm) (.string n) false).run Tryz.prog (((w.alloc A).alloc B).alloc C).drew = .ok (symV (L.l n)) (((w.alloc A).alloc B).alloc C).drew := fun A B C => by
  cases hlm : lm with
  | none => rw [h.lnil hlm n]; exact nilLookup _ hn
  | some b => exact ((h.below (k3 A B C)).lmap b hlm).lookup hn
 have hc3 : ∀ A B C, (((w.alloc A).alloc B).alloc C).cell? ⟨lb, 3, none⟩ = some (.map lm) := fun A B C => (h.below (k3 A B C)).lo
 have hc2 : ∀ A B C, (((w.alloc A).alloc B).alloc C).cell? ⟨lb, 2, none⟩ = some (.map (some gm)) := fun A B C => (h.below (k3 A B C)).gl
 have hcn : ∀ A t B C, (((w.alloc (.cells A t)).alloc B).alloc C).cell? ⟨w.heap.size, 0, none⟩ = A[0]? := fun A t B C => by
  rw [World.cell?_alloc_lt _ _ _ (by simp; omega), World.cell?_alloc_lt _ _ _ (by simp)]
  exact World.cell?_alloc_new w A t 0
 have HF : Hid (L.find n = if (L.l n).1 = 0 then L.g n else L.l n) := rfl
 unfold symV at *
 generalize (L.g n) = sg at *
 generalize (L.l n) = sl at *
 clear k2 k3
 by_cases hz : sl.1 = 0
 ·have HR : Hid (L.find n = sg) := by show _ = _; rw [HF.out, if_pos hz]
  rw [hz] at hL2 hL3
  clear hz HF
  go_enter Tryz.func192, Tryz.ntmps192
  go_wp2
  go_region
  all_goals go_wp2
  all_goals go_region
  all_goals go_wp2
  all_goals refine bodyPost_ret (v := .agg #[.int .i64 (sg.1 : Nat), .int .i64 (sg.2 : Nat)]) (by simp [results, Tryz.results192, go_sem]) rfl ⟨by rw [HR.out], ?_⟩
  all_goals exact (((((Below.refl _ _).alloc (Nat.le_refl _) _).alloc (by simp) _).alloc (by simp; omega) _).drew).drew
 ·have HR : Hid (L.find n = sl) := by show _ = _; rw [HF.out, if_neg hz]
  have hzb : ((sl.1 : Int) != 0) = true := by simp; omega
  clear hz HF
  go_enter Tryz.func192, Tryz.ntmps192
  go_wp2
  go_region
  all_goals go_wp2
  all_goals refine bodyPost_ret (v := .agg #[.int .i64 (sl.1 : Nat), .int .i64 (sl.2 : Nat)]) (by simp [results, Tryz.results192, go_sem]) rfl ⟨by rw [HR.out], ?_⟩
  all_goals exact ((((Below.refl _ _).alloc (Nat.le_refl _) _).alloc (by simp) _).alloc (by simp; omega) _).drew
theorem Below.drewN' (q : Nat) (w : World) {B : Nat} : Below B w (w.drewN q) := ⟨rfl, rfl, rfl, Nat.le_refl _, fun _ _ => rfl⟩
theorem symField0 (a b : Int) (w : World) : (Instr.field 240 (.agg #[.int .i64 a, .int .i64 b]) 0).run Tryz.prog w = .ok (.int .i64 a) w := by kernel_rfl
theorem symField1 (a b : Int) (w : World) : (Instr.field 240 (.agg #[.int .i64 a, .int .i64 b]) 1).run Tryz.prog w = .ok (.int .i64 b) w := by kernel_rfl
def PTell (lb gm ng nl : Nat) (lm : Option Nat) (L : PEnv) (c : Nat × Nat) (w : World) (e : Ending) (w' : World) : Prop :=
 e = .returned (.tuple #[]) /\ PL lb gm ng nl lm w' c L /\ Par lb w w'
theorem want_sym (h : PL lb gm ng nl lm w c L) {n : ByteArray} (hn : n.size <= maxLen) (p k : Nat) :
  Calls Tryz.prog 171 #[.pointer (some ⟨lb, 0, none⟩), .agg #[.string n, .int .i64 p], .int .i64 ((k + 1 : Nat) : Int)] w (PTell lb gm ng nl lm L (tellF (if (L.find n).1 = k + 1 then none else some (6, p)) c) w) := by
 have hf0 := symField0
 have hlt := h.lt
 have k1 : ∀ A, Below w.heap.size w (w.alloc A) := fun A => (Below.refl _ _).alloc (Nat.le_refl _) _
 have hF := fun A => find_sym (h.below (k1 A)) hn p
 unfold symV at hF
 generalize (L.find n) = sf at *
 by_cases hz : sf.1 = k + 1
 ·rw [if_pos hz, tellF_none]
  have hzb : ((sf.1 : Int) != ((k + 1 : Nat) : Int)) = false := by simp; omega
  clear hz
  go_enter Tryz.func171, Tryz.ntmps171
  go_wp2_with (go_at_call 192; refine (hF _).mono ?_; rintro e w1 ⟨rfl, hb1⟩)
  go_end0
  have kb : Below w.heap.size w w1 := (k1 _).trans (hb1.mono (by simp))
  exact ⟨rfl, h.below kb, Par.of_below kb⟩
 ·rw [if_neg hz]
  have hzb : ((sf.1 : Int) != ((k + 1 : Nat) : Int)) = true := by simp; omega
  clear hz
  go_enter Tryz.func171, Tryz.ntmps171
  go_wp2_with (go_at_call 192; refine (hF _).mono ?_; rintro e w1 ⟨rfl, hb1⟩; have hP1 := (h.below (k1 _)).below hb1; have hcp := (hb1.cell (p := ⟨w.heap.size, 1, none⟩) (by simp)).trans (World.cell?_alloc_new w _ _ 1); have hl1 := hP1.lt)
  go_region_with (go_at_call 148; refine (ltell_any (hP1.below (Below.refl _ _).drew) 6 p).mono ?_; rintro e w2 ⟨rfl, hP2, hk2⟩)
  all_goals go_wp2
  all_goals go_end0
  all_goals exact ⟨rfl, hP2, ((Par.of_below ((k1 _).trans (hb1.mono (by simp)))).drewN 1).trans hk2⟩
theorem target_sym (h : PL lb gm ng nl lm w c L) {n : ByteArray} (hn : n.size <= maxLen) (p : Nat) :
  Calls Tryz.prog 169 #[.pointer (some ⟨lb, 0, none⟩), .agg #[.string n, .int .i64 p]] w (PTell lb gm ng nl lm L (tellF (if (n.toList == L.res.toList) = true then none else (if (L.find n).1 = 0 + 1 then none else some (6, p))) c) w) := by
 have hlt := h.lt
 have hrs := h.rs
 have k1 : ∀ A, Below w.heap.size w (w.alloc A) := fun A => (Below.refl _ _).alloc (Nat.le_refl _) _
 have hcr : ∀ A, (w.alloc A).cell? ⟨lb, 4, none⟩ = some (.string L.res) := fun A => (h.below (k1 A)).rs
 have hW : ∀ A q, Calls Tryz.prog 171 #[.pointer (some ⟨lb, 0, none⟩), .agg #[.string n, .int .i64 p], .int .i64 1] ((w.alloc A).drewN q) (PTell lb gm ng nl lm L (tellF (if (L.find n).1 = 0 + 1 then none else some (6, p)) c) ((w.alloc A).drewN q)) := fun A q => want_sym (h.below ((k1 A).trans (Below.drewN' q (w.alloc A)))) hn p 0
 cases he : (n.toList == L.res.toList) with
 | true =>
  rw [if_pos rfl, tellF_none]
  go_enter Tryz.func169, Tryz.ntmps169
  go_wp2
  go_quiet (fail)
  go_wp2
  go_end0
  exact ⟨rfl, h.below ((k1 _).trans (Below.drewN' _ _)), Par.of_below ((k1 _).trans (Below.drewN' _ _))⟩
 | false =>
  rw [if_neg (by simp)]
  generalize (if (L.find n).1 = 0 + 1 then none else some (6, p)) = f at *
  go_enter Tryz.func169, Tryz.ntmps169
  go_wp2
  go_quiet (fail)
  go_wp2_with (go_at_call 171; refine (hW _ _).mono ?_; rintro e w2 ⟨rfl, hP2, hk2⟩)
  go_end0
  exact ⟨rfl, hP2, (Par.of_below ((k1 _).trans (Below.drewN' _ _))).trans hk2⟩
end
@[go_sem] theorem asVariable_nil (w : World) : (Instr.typeAssert .nilIface 251 284 true).run Tryz.prog w = .ok (.tuple #[.agg #[.string ByteArray.empty, .int .i64 0], .bool false]) w := by kernel_rfl
@[go_sem] theorem asVariable_yes (v : Value) (w : World) : (Instr.typeAssert (.iface 284 v) 251 284 true).run Tryz.prog w = .ok (.tuple #[v, .bool true]) w := by kernel_rfl
@[go_sem] theorem asVariable_no (u : TypeId) (v : Value) (w : World) (h : u ≠ 284) : (Instr.typeAssert (.iface u v) 251 284 true).run Tryz.prog w = .ok (.tuple #[.agg #[.string ByteArray.empty, .int .i64 0], .bool false]) w := by
 have e : (Instr.typeAssert (.iface u v) 251 284 true).run Tryz.prog w = (if u = 284 then (pure (Value.tuple #[v, .bool true]) : Sem Value) else (do pure (Value.tuple #[<- zeroValue 284, .bool false]))).run Tryz.prog w := by kernel_rfl
 have z : (do pure (Value.tuple #[<- zeroValue 284, .bool false]) : Sem Value).run Tryz.prog w = .ok (.tuple #[.agg #[.string ByteArray.empty, .int .i64 0], .bool false]) w := by kernel_rfl
 rw [e, if_neg h]; exact z
@[go_sem] theorem asElement_nil (w : World) : (Instr.typeAssert .nilIface 251 286 true).run Tryz.prog w = .ok (.tuple #[.agg #[.string ByteArray.empty, .int .i64 0, .nilIface], .bool false]) w := by kernel_rfl
@[go_sem] theorem asElement_yes (v : Value) (w : World) : (Instr.typeAssert (.iface 286 v) 251 286 true).run Tryz.prog w = .ok (.tuple #[v, .bool true]) w := by kernel_rfl
@[go_sem] theorem asElement_no (u : TypeId) (v : Value) (w : World) (h : u ≠ 286) : (Instr.typeAssert (.iface u v) 251 286 true).run Tryz.prog w = .ok (.tuple #[.agg #[.string ByteArray.empty, .int .i64 0, .nilIface], .bool false]) w := by
 have e : (Instr.typeAssert (.iface u v) 251 286 true).run Tryz.prog w = (if u = 286 then (pure (Value.tuple #[v, .bool true]) : Sem Value) else (do pure (Value.tuple #[<- zeroValue 286, .bool false]))).run Tryz.prog w := by kernel_rfl
 have z : (do pure (Value.tuple #[<- zeroValue 286, .bool false]) : Sem Value).run Tryz.prog w = .ok (.tuple #[.agg #[.string ByteArray.empty, .int .i64 0, .nilIface], .bool false]) w := by kernel_rfl
 rw [e, if_neg h]; exact z
@[go_sem] theorem asCallFunc_nil (w : World) : (Instr.typeAssert .nilIface 251 287 true).run Tryz.prog w = .ok (.tuple #[.agg #[.string ByteArray.empty, .int .i64 0, .slice none 0 0], .bool false]) w := by kernel_rfl
@[go_sem] theorem asCallFunc_yes (v : Value) (w : World) : (Instr.typeAssert (.iface 287 v) 251 287 true).run Tryz.prog w = .ok (.tuple #[v, .bool true]) w := by kernel_rfl
@[go_sem] theorem asCallFunc_no (u : TypeId) (v : Value) (w : World) (h : u ≠ 287) : (Instr.typeAssert (.iface u v) 251 287 true).run Tryz.prog w = .ok (.tuple #[.agg #[.string ByteArray.empty, .int .i64 0, .slice none 0 0], .bool false]) w := by
 have e : (Instr.typeAssert (.iface u v) 251 287 true).run Tryz.prog w = (if u = 287 then (pure (Value.tuple #[v, .bool true]) : Sem Value) else (do pure (Value.tuple #[<- zeroValue 287, .bool false]))).run Tryz.prog w := by kernel_rfl
 have z : (do pure (Value.tuple #[<- zeroValue 287, .bool false]) : Sem Value).run Tryz.prog w = .ok (.tuple #[.agg #[.string ByteArray.empty, .int .i64 0, .slice none 0 0], .bool false]) w := by kernel_rfl
 rw [e, if_neg h]; exact z
@[go_sem] theorem asBinary_nil (w : World) : (Instr.typeAssert .nilIface 251 289 true).run Tryz.prog w = .ok (.tuple #[.agg #[.string ByteArray.empty, .nilIface, .nilIface], .bool false]) w := by kernel_rfl
@[go_sem] theorem asBinary_yes (v : Value) (w : World) : (Instr.typeAssert (.iface 289 v) 251 289 true).run Tryz.prog w = .ok (.tuple #[v, .bool true]) w := by kernel_rfl
@[go_sem] theorem asBinary_no (u : TypeId) (v : Value) (w : World) (h : u ≠ 289) : (Instr.typeAssert (.iface u v) 251 289 true).run Tryz.prog w = .ok (.tuple #[.agg #[.string ByteArray.empty, .nilIface, .nilIface], .bool false]) w := by
 have e : (Instr.typeAssert (.iface u v) 251 289 true).run Tryz.prog w = (if u = 289 then (pure (Value.tuple #[v, .bool true]) : Sem Value) else (do pure (Value.tuple #[<- zeroValue 289, .bool false]))).run Tryz.prog w := by kernel_rfl
 have z : (do pure (Value.tuple #[<- zeroValue 289, .bool false]) : Sem Value).run Tryz.prog w = .ok (.tuple #[.agg #[.string ByteArray.empty, .nilIface, .nilIface], .bool false]) w := by kernel_rfl
 rw [e, if_neg h]; exact z
@[go_sem] theorem asUnary_nil (w : World) : (Instr.typeAssert .nilIface 251 292 true).run Tryz.prog w = .ok (.tuple #[.agg #[.string ByteArray.empty, .nilIface], .bool false]) w := by kernel_rfl
@[go_sem] theorem asUnary_yes (v : Value) (w : World) : (Instr.typeAssert (.iface 292 v) 251 292 true).run Tryz.prog w = .ok (.tuple #[v, .bool true]) w := by kernel_rfl
@[go_sem] theorem asUnary_no (u : TypeId) (v : Value) (w : World) (h : u ≠ 292) : (Instr.typeAssert (.iface u v) 251 292 true).run Tryz.prog w = .ok (.tuple #[.agg #[.string ByteArray.empty, .nilIface], .bool false]) w := by
 have e : (Instr.typeAssert (.iface u v) 251 292 true).run Tryz.prog w = (if u = 292 then (pure (Value.tuple #[v, .bool true]) : Sem Value) else (do pure (Value.tuple #[<- zeroValue 292, .bool false]))).run Tryz.prog w := by kernel_rfl
 have z : (do pure (Value.tuple #[<- zeroValue 292, .bool false]) : Sem Value).run Tryz.prog w = .ok (.tuple #[.agg #[.string ByteArray.empty, .nilIface], .bool false]) w := by kernel_rfl
 rw [e, if_neg h]; exact z
@[go_sem] theorem asAssign_nil (w : World) : (Instr.typeAssert .nilIface 225 253 true).run Tryz.prog w = .ok (.tuple #[.agg #[.string ByteArray.empty, .int .i64 0, .nilIface], .bool false]) w := by kernel_rfl
@[go_sem] theorem asAssign_yes (v : Value) (w : World) : (Instr.typeAssert (.iface 253 v) 225 253 true).run Tryz.prog w = .ok (.tuple #[v, .bool true]) w := by kernel_rfl
@[go_sem] theorem asAssign_no (u : TypeId) (v : Value) (w : World) (h : u ≠ 253) : (Instr.typeAssert (.iface u v) 225 253 true).run Tryz.prog w = .ok (.tuple #[.agg #[.string ByteArray.empty, .int .i64 0, .nilIface], .bool false]) w := by
 have e : (Instr.typeAssert (.iface u v) 225 253 true).run Tryz.prog w = (if u = 253 then (pure (Value.tuple #[v, .bool true]) : Sem Value) else (do pure (Value.tuple #[<- zeroValue 253, .bool false]))).run Tryz.prog w := by kernel_rfl
 have z : (do pure (Value.tuple #[<- zeroValue 253, .bool false]) : Sem Value).run Tryz.prog w = .ok (.tuple #[.agg #[.string ByteArray.empty, .int .i64 0, .nilIface], .bool false]) w := by kernel_rfl
 rw [e, if_neg h]; exact z
@[go_sem] theorem asAssignAt_nil (w : World) : (Instr.typeAssert .nilIface 225 257 true).run Tryz.prog w = .ok (.tuple #[.agg #[.string ByteArray.empty, .int .i64 0, .nilIface, .nilIface], .bool false]) w := by kernel_rfl
@[go_sem] theorem asAssignAt_yes (v : Value) (w : World) : (Instr.typeAssert (.iface 257 v) 225 257 true).run Tryz.prog w = .ok (.tuple #[v, .bool true]) w := by kernel_rfl
@[go_sem] theorem asAssignAt_no (u : TypeId) (v : Value) (w : World) (h : u ≠ 257) : (Instr.typeAssert (.iface u v) 225 257 true).run Tryz.prog w = .ok (.tuple #[.agg #[.string ByteArray.empty, .int .i64 0, .nilIface, .nilIface], .bool false]) w := by
 have e : (Instr.typeAssert (.iface u v) 225 257 true).run Tryz.prog w = (if u = 257 then (pure (Value.tuple #[v, .bool true]) : Sem Value) else (do pure (Value.tuple #[<- zeroValue 257, .bool false]))).run Tryz.prog w := by kernel_rfl
 have z : (do pure (Value.tuple #[<- zeroValue 257, .bool false]) : Sem Value).run Tryz.prog w = .ok (.tuple #[.agg #[.string ByteArray.empty, .int .i64 0, .nilIface, .nilIface], .bool false]) w := by kernel_rfl
 rw [e, if_neg h]; exact z
@[go_sem] theorem asCallProc_nil (w : World) : (Instr.typeAssert .nilIface 225 261 true).run Tryz.prog w = .ok (.tuple #[.agg #[.string ByteArray.empty, .int .i64 0, .slice none 0 0], .bool false]) w := by kernel_rfl
@[go_sem] theorem asCallProc_yes (v : Value) (w : World) : (Instr.typeAssert (.iface 261 v) 225 261 true).run Tryz.prog w = .ok (.tuple #[v, .bool true]) w := by kernel_rfl
@[go_sem] theorem asCallProc_no (u : TypeId) (v : Value) (w : World) (h : u ≠ 261) : (Instr.typeAssert (.iface u v) 225 261 true).run Tryz.prog w = .ok (.tuple #[.agg #[.string ByteArray.empty, .int .i64 0, .slice none 0 0], .bool false]) w := by
 have e : (Instr.typeAssert (.iface u v) 225 261 true).run Tryz.prog w = (if u = 261 then (pure (Value.tuple #[v, .bool true]) : Sem Value) else (do pure (Value.tuple #[<- zeroValue 261, .bool false]))).run Tryz.prog w := by kernel_rfl
 have z : (do pure (Value.tuple #[<- zeroValue 261, .bool false]) : Sem Value).run Tryz.prog w = .ok (.tuple #[.agg #[.string ByteArray.empty, .int .i64 0, .slice none 0 0], .bool false]) w := by kernel_rfl
 rw [e, if_neg h]; exact z
@[go_sem] theorem asIf_nil (w : World) : (Instr.typeAssert .nilIface 225 264 true).run Tryz.prog w = .ok (.tuple #[.agg #[.nilIface, .nilIface, .nilIface], .bool false]) w := by kernel_rfl
@[go_sem] theorem asIf_yes (v : Value) (w : World) : (Instr.typeAssert (.iface 264 v) 225 264 true).run Tryz.prog w = .ok (.tuple #[v, .bool true]) w := by kernel_rfl
@[go_sem] theorem asIf_no (u : TypeId) (v : Value) (w : World) (h : u ≠ 264) : (Instr.typeAssert (.iface u v) 225 264 true).run Tryz.prog w = .ok (.tuple #[.agg #[.nilIface, .nilIface, .nilIface], .bool false]) w := by
 have e : (Instr.typeAssert (.iface u v) 225 264 true).run Tryz.prog w = (if u = 264 then (pure (Value.tuple #[v, .bool true]) : Sem Value) else (do pure (Value.tuple #[<- zeroValue 264, .bool false]))).run Tryz.prog w := by kernel_rfl
 have z : (do pure (Value.tuple #[<- zeroValue 264, .bool false]) : Sem Value).run Tryz.prog w = .ok (.tuple #[.agg #[.nilIface, .nilIface, .nilIface], .bool false]) w := by kernel_rfl
 rw [e, if_neg h]; exact z
@[go_sem] theorem asWhile_nil (w : World) : (Instr.typeAssert .nilIface 225 267 true).run Tryz.prog w = .ok (.tuple #[.agg #[.nilIface, .nilIface], .bool false]) w := by kernel_rfl
@[go_sem] theorem asWhile_yes (v : Value) (w : World) : (Instr.typeAssert (.iface 267 v) 225 267 true).run Tryz.prog w = .ok (.tuple #[v, .bool true]) w := by kernel_rfl
@[go_sem] theorem asWhile_no (u : TypeId) (v : Value) (w : World) (h : u ≠ 267) : (Instr.typeAssert (.iface u v) 225 267 true).run Tryz.prog w = .ok (.tuple #[.agg #[.nilIface, .nilIface], .bool false]) w := by
 have e : (Instr.typeAssert (.iface u v) 225 267 true).run Tryz.prog w = (if u = 267 then (pure (Value.tuple #[v, .bool true]) : Sem Value) else (do pure (Value.tuple #[<- zeroValue 267, .bool false]))).run Tryz.prog w := by kernel_rfl
 have z : (do pure (Value.tuple #[<- zeroValue 267, .bool false]) : Sem Value).run Tryz.prog w = .ok (.tuple #[.agg #[.nilIface, .nilIface], .bool false]) w := by kernel_rfl
 rw [e, if_neg h]; exact z
@[go_sem] theorem asBlock_nil (w : World) : (Instr.typeAssert .nilIface 225 248 true).run Tryz.prog w = .ok (.tuple #[.agg #[.slice none 0 0], .bool false]) w := by kernel_rfl
@[go_sem] theorem asBlock_yes (v : Value) (w : World) : (Instr.typeAssert (.iface 248 v) 225 248 true).run Tryz.prog w = .ok (.tuple #[v, .bool true]) w := by kernel_rfl
@[go_sem] theorem asBlock_no (u : TypeId) (v : Value) (w : World) (h : u ≠ 248) : (Instr.typeAssert (.iface u v) 225 248 true).run Tryz.prog w = .ok (.tuple #[.agg #[.slice none 0 0], .bool false]) w := by
 have e : (Instr.typeAssert (.iface u v) 225 248 true).run Tryz.prog w = (if u = 248 then (pure (Value.tuple #[v, .bool true]) : Sem Value) else (do pure (Value.tuple #[<- zeroValue 248, .bool false]))).run Tryz.prog w := by kernel_rfl
 have z : (do pure (Value.tuple #[<- zeroValue 248, .bool false]) : Sem Value).run Tryz.prog w = .ok (.tuple #[.agg #[.slice none 0 0], .bool false]) w := by kernel_rfl
 rw [e, if_neg h]; exact z
@[go_sem] theorem asWrite_nil (w : World) : (Instr.typeAssert .nilIface 225 270 true).run Tryz.prog w = .ok (.tuple #[.agg #[.nilIface], .bool false]) w := by kernel_rfl
@[go_sem] theorem asWrite_yes (v : Value) (w : World) : (Instr.typeAssert (.iface 270 v) 225 270 true).run Tryz.prog w = .ok (.tuple #[v, .bool true]) w := by kernel_rfl
@[go_sem] theorem asWrite_no (u : TypeId) (v : Value) (w : World) (h : u ≠ 270) : (Instr.typeAssert (.iface u v) 225 270 true).run Tryz.prog w = .ok (.tuple #[.agg #[.nilIface], .bool false]) w := by
 have e : (Instr.typeAssert (.iface u v) 225 270 true).run Tryz.prog w = (if u = 270 then (pure (Value.tuple #[v, .bool true]) : Sem Value) else (do pure (Value.tuple #[<- zeroValue 270, .bool false]))).run Tryz.prog w := by kernel_rfl
 have z : (do pure (Value.tuple #[<- zeroValue 270, .bool false]) : Sem Value).run Tryz.prog w = .ok (.tuple #[.agg #[.nilIface], .bool false]) w := by kernel_rfl
 rw [e, if_neg h]; exact z
@[go_sem] theorem asRead_nil (w : World) : (Instr.typeAssert .nilIface 225 271 true).run Tryz.prog w = .ok (.tuple #[.agg #[.string ByteArray.empty, .int .i64 0], .bool false]) w := by kernel_rfl
@[go_sem] theorem asRead_yes (v : Value) (w : World) : (Instr.typeAssert (.iface 271 v) 225 271 true).run Tryz.prog w = .ok (.tuple #[v, .bool true]) w := by kernel_rfl
@[go_sem] theorem asRead_no (u : TypeId) (v : Value) (w : World) (h : u ≠ 271) : (Instr.typeAssert (.iface u v) 225 271 true).run Tryz.prog w = .ok (.tuple #[.agg #[.string ByteArray.empty, .int .i64 0], .bool false]) w := by
 have e : (Instr.typeAssert (.iface u v) 225 271 true).run Tryz.prog w = (if u = 271 then (pure (Value.tuple #[v, .bool true]) : Sem Value) else (do pure (Value.tuple #[<- zeroValue 271, .bool false]))).run Tryz.prog w := by kernel_rfl
 have z : (do pure (Value.tuple #[<- zeroValue 271, .bool false]) : Sem Value).run Tryz.prog w = .ok (.tuple #[.agg #[.string ByteArray.empty, .int .i64 0], .bool false]) w := by kernel_rfl
 rw [e, if_neg h]; exact z
@[go_sem] theorem asVar_nil (w : World) : (Instr.typeAssert .nilIface 175 212 true).run Tryz.prog w = .ok (.tuple #[.agg #[.string ByteArray.empty, .int .i64 0], .bool false]) w := by kernel_rfl
@[go_sem] theorem asVar_yes (v : Value) (w : World) : (Instr.typeAssert (.iface 212 v) 175 212 true).run Tryz.prog w = .ok (.tuple #[v, .bool true]) w := by kernel_rfl
@[go_sem] theorem asVar_no (u : TypeId) (v : Value) (w : World) (h : u ≠ 212) : (Instr.typeAssert (.iface u v) 175 212 true).run Tryz.prog w = .ok (.tuple #[.agg #[.string ByteArray.empty, .int .i64 0], .bool false]) w := by
 have e : (Instr.typeAssert (.iface u v) 175 212 true).run Tryz.prog w = (if u = 212 then (pure (Value.tuple #[v, .bool true]) : Sem Value) else (do pure (Value.tuple #[<- zeroValue 212, .bool false]))).run Tryz.prog w := by kernel_rfl
 have z : (do pure (Value.tuple #[<- zeroValue 212, .bool false]) : Sem Value).run Tryz.prog w = .ok (.tuple #[.agg #[.string ByteArray.empty, .int .i64 0], .bool false]) w := by kernel_rfl
 rw [e, if_neg h]; exact z
@[go_sem] theorem asArray_nil (w : World) : (Instr.typeAssert .nilIface 175 215 true).run Tryz.prog w = .ok (.tuple #[.agg #[.string ByteArray.empty, .int .i64 0, .int .i64 0, .int .i64 0], .bool false]) w := by kernel_rfl
@[go_sem] theorem asArray_yes (v : Value) (w : World) : (Instr.typeAssert (.iface 215 v) 175 215 true).run Tryz.prog w = .ok (.tuple #[v, .bool true]) w := by kernel_rfl
@[go_sem] theorem asArray_no (u : TypeId) (v : Value) (w : World) (h : u ≠ 215) : (Instr.typeAssert (.iface u v) 175 215 true).run Tryz.prog w = .ok (.tuple #[.agg #[.string ByteArray.empty, .int .i64 0, .int .i64 0, .int .i64 0], .bool false]) w := by
 have e : (Instr.typeAssert (.iface u v) 175 215 true).run Tryz.prog w = (if u = 215 then (pure (Value.tuple #[v, .bool true]) : Sem Value) else (do pure (Value.tuple #[<- zeroValue 215, .bool false]))).run Tryz.prog w := by kernel_rfl
 have z : (do pure (Value.tuple #[<- zeroValue 215, .bool false]) : Sem Value).run Tryz.prog w = .ok (.tuple #[.agg #[.string ByteArray.empty, .int .i64 0, .int .i64 0, .int .i64 0], .bool false]) w := by kernel_rfl
 rw [e, if_neg h]; exact z
@[go_sem] theorem asProc_nil (w : World) : (Instr.typeAssert .nilIface 175 220 true).run Tryz.prog w = .ok (.tuple #[.agg #[.string ByteArray.empty, .int .i64 0, .slice none 0 0, .slice none 0 0, .slice none 0 0], .bool false]) w := by kernel_rfl
@[go_sem] theorem asProc_yes (v : Value) (w : World) : (Instr.typeAssert (.iface 220 v) 175 220 true).run Tryz.prog w = .ok (.tuple #[v, .bool true]) w := by kernel_rfl
@[go_sem] theorem asProc_no (u : TypeId) (v : Value) (w : World) (h : u ≠ 220) : (Instr.typeAssert (.iface u v) 175 220 true).run Tryz.prog w = .ok (.tuple #[.agg #[.string ByteArray.empty, .int .i64 0, .slice none 0 0, .slice none 0 0, .slice none 0 0], .bool false]) w := by
 have e : (Instr.typeAssert (.iface u v) 175 220 true).run Tryz.prog w = (if u = 220 then (pure (Value.tuple #[v, .bool true]) : Sem Value) else (do pure (Value.tuple #[<- zeroValue 220, .bool false]))).run Tryz.prog w := by kernel_rfl
 have z : (do pure (Value.tuple #[<- zeroValue 220, .bool false]) : Sem Value).run Tryz.prog w = .ok (.tuple #[.agg #[.string ByteArray.empty, .int .i64 0, .slice none 0 0, .slice none 0 0, .slice none 0 0], .bool false]) w := by kernel_rfl
 rw [e, if_neg h]; exact z
@[go_sem] theorem asFunc_nil (w : World) : (Instr.typeAssert .nilIface 175 222 true).run Tryz.prog w = .ok (.tuple #[.agg #[.string ByteArray.empty, .int .i64 0, .slice none 0 0, .slice none 0 0, .slice none 0 0], .bool false]) w := by kernel_rfl
@[go_sem] theorem asFunc_yes (v : Value) (w : World) : (Instr.typeAssert (.iface 222 v) 175 222 true).run Tryz.prog w = .ok (.tuple #[v, .bool true]) w := by kernel_rfl
@[go_sem] theorem asFunc_no (u : TypeId) (v : Value) (w : World) (h : u ≠ 222) : (Instr.typeAssert (.iface u v) 175 222 true).run Tryz.prog w = .ok (.tuple #[.agg #[.string ByteArray.empty, .int .i64 0, .slice none 0 0, .slice none 0 0, .slice none 0 0], .bool false]) w := by
 have e : (Instr.typeAssert (.iface u v) 175 222 true).run Tryz.prog w = (if u = 222 then (pure (Value.tuple #[v, .bool true]) : Sem Value) else (do pure (Value.tuple #[<- zeroValue 222, .bool false]))).run Tryz.prog w := by kernel_rfl
 have z : (do pure (Value.tuple #[<- zeroValue 222, .bool false]) : Sem Value).run Tryz.prog w = .ok (.tuple #[.agg #[.string ByteArray.empty, .int .i64 0, .slice none 0 0, .slice none 0 0, .slice none 0 0], .bool false]) w := by kernel_rfl
 rw [e, if_neg h]; exact z
section
variable {lb gm ng nl : Nat} {lm : Option Nat} {w : World} {c : Nat × Nat} {L : PEnv} {E : Env} {Q : Nat -> Prop}
theorem tell_want {c : Nat × Nat} (hr : c.1 = 0 -> Rep L E) (n : ByteArray) (p k : Nat) : tellF (if (L.find n).1 = k + 1 then none else some (6, p)) c = tellF (wantF E n p k) c := by
 by_cases h : c.1 = 0
 ·unfold wantF
  have := (hr h).find_kind n k
  by_cases h2 : (L.find n).1 = k + 1
  ·rw [if_pos h2, if_pos (this.1 h2)]
  ·rw [if_neg h2, if_neg (fun h3 => h2 (this.2 h3))]
 ·unfold tellF; rw [if_neg h, if_neg h]
theorem tell_target {c : Nat × Nat} (hr : c.1 = 0 -> Rep L E) {n : ByteArray} (hn : n.toList ≠ []) (p : Nat) : tellF (if (n.toList == L.res.toList) = true then none else (if (L.find n).1 = 0 + 1 then none else some (6, p))) c = tellF (assignF E n p) c := by
 by_cases h : c.1 = 0
 ·by_cases he : (n.toList == L.res.toList) = true
  ·rw [if_pos he, (hr h).res_yes hn he]
  ·rw [if_neg he, (hr h).res_no (by simpa using he), tell_want hr]
 ·unfold tellF; rw [if_neg h, if_neg h]
theorem tell_call {c : Nat × Nat} (hr : c.1 = 0 -> Rep L E) (n : ByteArray) (p k many : Nat) (hk : k = 2 ∨ k = 3) :
  tellF (if (L.find n).2 = many then none else some (7, p)) (tellF (wantF E n p k) c) = tellF (callF E n p k many) c := by
 by_cases h : c.1 = 0
 ·unfold wantF callF
  by_cases h2 : (E.kindIx n).1 = k
  ·rw [if_pos h2, if_pos h2, tellF_none, (hr h).find_args n k hk h2]
   by_cases h3 : E.args n = many
   ·rw [if_pos h3, if_pos h3.symm]
   ·rw [if_neg h3, if_neg (fun h4 => h3 h4.symm)]
  ·rw [if_neg h2, if_neg h2]
   have e : tellF (some (6, p)) c = (6, p) := by simp [tellF, h]
   rw [e]
   unfold tellF
   rw [if_neg (by simp)]
 ·have e : ∀ f, tellF f c = c := fun f => by unfold tellF; rw [if_neg h]
  rw [e, e, e]
theorem rep_tell' {c : Nat × Nat} (hr : c.1 = 0 -> Rep L E) (f : Option (Nat × Nat)) : (tellF f c).1 = 0 -> Rep L E := fun h => by
 refine hr ?_
 unfold tellF at h
 split at h
 ·assumption
 ·exact h
def LX (lb gm ng nl : Nat) (lm : Option Nat) (L : PEnv) (E : Env) (e : Ex) : Prop :=
 ∀ (Q : Nat -> Prop) (w : World) (v : Value) (c : Nat × Nat), PL lb gm ng nl lm w c L -> (c.1 = 0 -> Rep L E) -> REx Q w v e -> (∀ b, Q b -> b ≠ lb) -> OkEx e ->
  Calls Tryz.prog 170 #[.pointer (some ⟨lb, 0, none⟩), v] w (PTell lb gm ng nl lm L (tellF (lookEx E e) c) w)
theorem keepLb {lb : Nat} {Q : Nat -> Prop} {w w' : World} (hQ : ∀ b, Q b -> b ≠ lb) (hk : Par lb w w') : KeepQ Q w w' := ⟨hk.size, fun b hb hl => hk.block b hl (hQ b hb)⟩
theorem lx_nil : LX lb gm ng nl lm L E .nil := by
 intro Q w v c h hr hR hQ hO
 cases hR
 rw [lookEx, tellF_none]
 go_enter Tryz.func170, Tryz.ntmps170
 go_wp2
 go_end0
 exact ⟨rfl, h, Par.refl _ _⟩
theorem lx_num (x : Nat) : LX lb gm ng nl lm L E (.num x) := by
 intro Q w v c h hr hR hQ hO
 cases hR
 rw [lookEx, tellF_none]
 go_enter Tryz.func170, Tryz.ntmps170
 go_wp2
 go_end0
 exact ⟨rfl, h, Par.refl _ _⟩
theorem lx_var (n : ByteArray) (p : Nat) : LX lb gm ng nl lm L E (.var n p) := by
 intro Q w v c h hr hR hQ hO
 cases hR
 rw [OkEx] at hO
 have hn : n.size <= maxLen := by have := hO.2; unfold maxLen; omega
 have k1 : ∀ A, Below w.heap.size w (w.alloc A) := fun A => (Below.refl _ _).alloc (Nat.le_refl _) _
 have hW : ∀ A, Calls Tryz.prog 171 #[.pointer (some ⟨lb, 0, none⟩), .agg #[.string n, .int .i64 p], .int .i64 1] (w.alloc A) (PTell lb gm ng nl lm L (tellF (lookEx E (.var n p)) c) (w.alloc A)) := fun A => by
  rw [lookEx, <- tell_want hr]; exact want_sym (h.below (k1 A)) hn p 0
 generalize tellF (lookEx E (.var n p)) c = c9 at *
 go_enter Tryz.func170, Tryz.ntmps170
 go_wp2_with (go_at_call 171; refine (hW _).mono ?_; rintro e w2 ⟨rfl, hP2, hk2⟩)
 go_end0
 exact ⟨rfl, hP2, (Par.of_below (k1 _)).trans hk2⟩
end
section
variable {lb gm ng nl : Nat} {lm : Option Nat} {w : World} {c : Nat × Nat} {L : PEnv} {E : Env} {Q : Nat -> Prop}
theorem parCell {lb b : Nat} {w w' : World} (hk : Par lb w w') (hl : b < w.heap.size) (hne : b ≠ lb) (o : Nat) : w'.cell? ⟨b, o, none⟩ = w.cell? ⟨b, o, none⟩ := World.cell?_of_block (w := w) (hk.block b hl hne)
theorem parNew {lb : Nat} {w w' : World} {A : Array Value} {t : TypeId} (h : lb < w.heap.size) (hk : Par lb (w.alloc (.cells A t)) w') (o : Nat) : w'.cell? ⟨w.heap.size, o, none⟩ = A[o]? := by
 rw [parCell hk (by simp) (by omega)]; exact World.cell?_alloc_new w A t o
theorem lx_elem (n : ByteArray) (p : Nat) {i : Ex} (ih : LX lb gm ng nl lm L E i) : LX lb gm ng nl lm L E (.elem n p i) := by
 intro Q w v c h hr hR hQ hO
 cases hR with
 | elem _ _ hi =>
 rename_i vi
 have hci := hi.cells
 have hti := run_store_one hi.one
 rw [OkEx] at hO
 have hlt := h.lt
 have hn : n.size <= maxLen := by have := hO.1.2; unfold maxLen; omega
 have k1 : ∀ A, Below w.heap.size w (w.alloc A) := fun A => (Below.refl _ _).alloc (Nat.le_refl _) _
 have hW : ∀ A, Calls Tryz.prog 171 #[.pointer (some ⟨lb, 0, none⟩), .agg #[.string n, .int .i64 p], .int .i64 2] (w.alloc A) (PTell lb gm ng nl lm L (tellF (wantF E n p 1) c) (w.alloc A)) := fun A => by
  rw [<- tell_want hr]; exact want_sym (h.below (k1 A)) hn p 1
 have hI : ∀ w2, PL lb gm ng nl lm w2 (tellF (wantF E n p 1) c) L -> Par lb w w2 -> Calls Tryz.prog 170 #[.pointer (some ⟨lb, 0, none⟩), vi] w2 (PTell lb gm ng nl lm L (tellF (lookEx E (.elem n p i)) c) w2) := fun w2 hP hk => by
  rw [lookEx, <- tellF_or _ _ (nz_wantF _ _ _ _)]
  exact ih Q w2 vi _ hP (rep_tell' hr _) (hi.keep (keepLb hQ hk)) hQ hO.2
 generalize tellF (lookEx E (.elem n p i)) c = c9 at *
 generalize tellF (wantF E n p 1) c = c8 at *
 go_enter Tryz.func170, Tryz.ntmps170
 go_wp2_with (first
  | (go_at_call 171; refine (hW _).mono ?_; rintro e w2 ⟨rfl, hP2, hk2⟩; have hc2 := parNew hlt hk2 2; have hk2' := (Par.of_below (k1 _)).trans hk2)
  | (go_at_call 170; refine (hI _ hP2 hk2').mono ?_; rintro e w3 ⟨rfl, hP3, hk3⟩))
 go_end0
 exact ⟨rfl, hP3, hk2'.trans hk3⟩
theorem lx_bin (op : ByteArray) {l r : Ex} (ihl : LX lb gm ng nl lm L E l) (ihr : LX lb gm ng nl lm L E r) : LX lb gm ng nl lm L E (.bin op l r) := by
 intro Q w v c h hr hR hQ hO
 cases hR with
 | bin _ h1 h2 =>
 rename_i vl vr
 have hcl := h1.cells
 have htl := run_store_one h1.one
 have hcr := h2.cells
 have htr := run_store_one h2.one
 rw [OkEx] at hO
 have hlt := h.lt
 have k1 : ∀ A, Below w.heap.size w (w.alloc A) := fun A => (Below.refl _ _).alloc (Nat.le_refl _) _
 have hW : ∀ A, Calls Tryz.prog 170 #[.pointer (some ⟨lb, 0, none⟩), vl] (w.alloc A) (PTell lb gm ng nl lm L (tellF (lookEx E l) c) (w.alloc A)) := fun A => 
  ihl Q _ vl _ (h.below (k1 A)) hr (h1.keep (keepLb hQ (Par.of_below (k1 _)))) hQ hO.1
 have hI : ∀ w2, PL lb gm ng nl lm w2 (tellF (lookEx E l) c) L -> Par lb w w2 -> Calls Tryz.prog 170 #[.pointer (some ⟨lb, 0, none⟩), vr] w2 (PTell lb gm ng nl lm L (tellF (lookEx E (.bin op l r)) c) w2) := fun w2 hP hk => by
  rw [lookEx, <- tellF_or _ _ (nz_lookEx _ _)]
  exact ihr Q w2 vr _ hP (rep_tell' hr _) (h2.keep (keepLb hQ hk)) hQ hO.2
 generalize tellF (lookEx E (.bin op l r)) c = c9 at *
 generalize tellF (lookEx E l) c = c8 at *
 go_enter Tryz.func170, Tryz.ntmps170
 go_wp2_with (first
  | (go_at_call 170; refine (hI _ hP2 hk2').mono ?_; rintro e w3 ⟨rfl, hP3, hk3⟩)
  | (go_at_call 170; refine (hW _).mono ?_; rintro e w2 ⟨rfl, hP2, hk2⟩; have hc2 := parNew hlt hk2 2; have hk2' := (Par.of_below (k1 _)).trans hk2))
 go_end0
 exact ⟨rfl, hP3, hk2'.trans hk3⟩
theorem lx_un (op : ByteArray) {e : Ex} (ih : LX lb gm ng nl lm L E e) : LX lb gm ng nl lm L E (.un op e) := by
 intro Q w v c h hr hR hQ hO
 cases hR with
 | un _ h1 =>
 rename_i ve
 have hce := h1.cells
 have hte := run_store_one h1.one
 rw [OkEx] at hO
 have hlt := h.lt
 have k1 : ∀ A, Below w.heap.size w (w.alloc A) := fun A => (Below.refl _ _).alloc (Nat.le_refl _) _
 have hW : ∀ A, Calls Tryz.prog 170 #[.pointer (some ⟨lb, 0, none⟩), ve] (w.alloc A) (PTell lb gm ng nl lm L (tellF (lookEx E (.un op e)) c) (w.alloc A)) := fun A => by
  rw [lookEx]; exact ih Q _ ve _ (h.below (k1 A)) hr (h1.keep (keepLb hQ (Par.of_below (k1 _)))) hQ hO
 generalize tellF (lookEx E (.un op e)) c = c9 at *
 go_enter Tryz.func170, Tryz.ntmps170
 go_wp2_with (go_at_call 170; refine (hW _).mono ?_; rintro e w2 ⟨rfl, hP2, hk2⟩)
 go_end0
 exact ⟨rfl, hP2, (Par.of_below (k1 _)).trans hk2⟩
end
end Go.Proofs.YtklobognaldjpaaGreat
