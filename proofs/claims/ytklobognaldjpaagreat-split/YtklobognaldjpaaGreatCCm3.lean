/- The maker of code in memory; what it lays down. The maker of code: its maps. The maker of code: where a jump goes to; the places of names. -/
import Derived.Test.YtklobognaldjpaaGreatCRun2
import Derived.Test.YtklobognaldjpaaGreatCParse10
import Derived.Test.YtklobognaldjpaaGreatCLk9
import Derived.Deep.AppendLies
import Derived.Laws.OwnMore
import Derived.Maps.OwnSet
set_option maxRecDepth 1000000
set_option maxHeartbeats 1000000
namespace Go.Proofs.YtklobognaldjpaaGreat
open Go.RowKit
theorem Tryz.infoIntC : (Tryz.prog.info? 3).map (fun i => (i.zero, i.size, i.bytes)) = some (some (.int .i64 0), 1, 8) := by kernel_rfl
def LocIs (w : World) (b n : Nat) (l : ByteArray -> Option Nat) (many : Nat) : Prop :=
 ∃ D : DataW Value, w.ownsMap Tryz.prog 9 symR b n D /\ Maps.Tidy D /\ Maps.size D = many /\
  ∀ key : ByteArray, key.size <= maxLen -> Maps.has D (.string key.data.toList) = (l key).isSome /\ D.atKey (.string key.data.toList) (.held (.int .i64 0)) = .held (.int .i64 ((l key).getD 0 : Nat))
theorem LocIs.lt {w : World} {b n : Nat} {l : ByteArray -> Option Nat} {many : Nat} (h : LocIs w b n l many) : b < w.heap.size := by obtain ⟨D, h1, _⟩ := h; exact h1.lt
theorem LocIs.block {w w' : World} {b n : Nat} {l : ByteArray -> Option Nat} {many : Nat} (h : LocIs w b n l many) (hb : w'.heap[b]? = w.heap[b]?) : LocIs w' b n l many := by
 obtain ⟨D, ⟨es, clock, h1, h4, h5, h6⟩, h2⟩ := h
 exact ⟨D, ⟨es, clock, by rw [hb]; exact h1, h4, h5, h6⟩, h2⟩
structure Mkr where
 words : List Int
 places : Nat
 E : CE
structure MK (base mb gm ng nl : Nat) (lm : Option Nat) (w : World) (M : Mkr) (v : Value) : Prop where
 wd : w.cell? ⟨mb, 0, none⟩ = some v
 pl : w.cell? ⟨mb, 1, none⟩ = some (.int .i64 M.places)
 gl : w.cell? ⟨mb, 2, none⟩ = some (.map (some gm))
 lo : w.cell? ⟨mb, 3, none⟩ = some (.map lm)
 rs : w.cell? ⟨mb, 4, none⟩ = some (.string M.E.res)
 frz : ∀ o, w.frozen? ⟨mb, o, none⟩ = false
 own : w.ownsRow base 3 1 v M.words.length (M.words.map (.int .i64))
 gmap : MapIs w gm ng M.E.g
 lmap : ∀ b, lm = some b -> LocIs w b nl M.E.l M.E.n
 lnil : lm = none -> (∀ n, M.E.l n = none) /\ M.E.n = 0
 mlt : mb < base
 bas : base <= w.heap.size
 gne : gm ≠ mb
 lne : ∀ b, lm = some b -> b ≠ mb /\ b ≠ gm
def Mv (mb : Nat) (v v' : Value) (w w' : World) : Prop :=
 Fr (fun b => b = mb ∨ v.ownBlock = some b) w w' /\ (v'.ownBlock = v.ownBlock ∨ ∀ k, v'.ownBlock = some k -> w.heap.size <= k)
section
variable {base mb gm ng nl : Nat} {lm : Option Nat} {w w' : World} {M : Mkr} {v v' v'' : Value}
theorem Mv.refl (mb : Nat) (v : Value) (w : World) : Mv mb v v w w := ⟨Fr.refl _ _, .inl rfl⟩
theorem Mv.of_below {mb : Nat} {v : Value} {w w' : World} (h : Below w.heap.size w w') : Mv mb v v w w' := ⟨Fr.of_below h, .inl rfl⟩
theorem Mv.trans {mb : Nat} {v v' v'' : Value} {a b c : World} (h : Mv mb v v' a b) (k : Mv mb v' v'' b c) : Mv mb v v'' a c := by
 refine ⟨?_, ?_⟩
 ·refine ⟨k.1.os.trans h.1.os, k.1.tape.trans h.1.tape, k.1.output.trans h.1.output, Nat.le_trans h.1.size k.1.size, fun i hi hn => ?_⟩
  refine (k.1.block i (Nat.lt_of_lt_of_le hi h.1.size) ?_).trans (h.1.block i hi hn)
  rintro (e | e)
  ·exact hn (.inl e)
  ·rcases h.2 with h2 | h2
   ·exact hn (.inr (h2 ▸ e))
   ·have := h2 i e; omega
 ·rcases k.2 with k2 | k2
  ·rcases h.2 with h2 | h2
   ·exact .inl (k2.trans h2)
   ·exact .inr fun i hi => h2 i (k2 ▸ hi)
  ·exact .inr fun i hi => Nat.le_trans h.1.size (k2 i hi)
theorem MK.row (h : MK base mb gm ng nl lm w M v) : ∀ g, v.ownBlock = some g -> base <= g /\ g < w.heap.size /\ g ≠ mb /\ g ≠ gm /\ ∀ b, lm = some b -> g ≠ b := by
 intro g hg
 obtain ⟨h1, h2⟩ := h.own.lt g hg
 have hblk : ∃ cur t, w.heap[g]? = some (.cells cur t) := by
  rcases h.own.2 with ⟨rfl, _⟩ | ⟨g', cap, cur, rfl, _, hh, _⟩
  ·simp [Value.ownBlock] at hg
  ·have : g' = g := by simpa [Value.ownBlock] using hg
   subst this; exact ⟨_, _, hh⟩
 obtain ⟨cur, t, hc⟩ := hblk
 refine ⟨h1, h2, fun e => ?_, fun e => ?_, fun b hb e => ?_⟩
 ·have := h.mlt; omega
 ·obtain ⟨D, ⟨es, clock, h3, _⟩, _⟩ := h.gmap
  rw [<- e, hc] at h3; cases h3
 ·obtain ⟨D, ⟨es, clock, h3, _⟩, _⟩ := h.lmap b hb
  rw [<- e, hc] at h3; cases h3
theorem MK.lt (h : MK base mb gm ng nl lm w M v) : mb < w.heap.size := lt_of_cell h.pl
theorem MK.below (h : MK base mb gm ng nl lm w M v) (hb : Below w.heap.size w w') : MK base mb gm ng nl lm w' M v := by
 have e : ∀ o, w'.cell? ⟨mb, o, none⟩ = w.cell? ⟨mb, o, none⟩ := fun o => hb.cell (p := ⟨mb, o, none⟩) h.lt
 exact ⟨by rw [e]; exact h.wd, by rw [e]; exact h.pl, by rw [e]; exact h.gl, by rw [e]; exact h.lo, by rw [e]; exact h.rs, fun o => by rw [hb.frozen (p := ⟨mb, o, none⟩) h.lt]; exact h.frz o,
  owns_below h.own hb, h.gmap.block (hb.block gm h.gmap.lt), fun b hb2 => (h.lmap b hb2).block (hb.block b (h.lmap b hb2).lt), h.lnil, h.mlt, Nat.le_trans h.bas hb.size, h.gne, h.lne⟩
theorem MK.grow {w1 : World} (h : MK base mb gm ng nl lm w M v) {ks : List Int} (hg : w.grownBy w1 v.ownBlock) (ho : w1.ownsRow base 3 1 v' (M.words.length + ks.length) (M.words.map (.int .i64) ++ ks.map (.int .i64)))
  (hn : v'.ownBlock = v.ownBlock ∨ ∀ k, v'.ownBlock = some k -> w.heap.size <= k) :
  MK base mb gm ng nl lm (w1.setCell ⟨mb, 0, none⟩ v') { M with words := M.words ++ ks } v' /\ Mv mb v v' w (w1.setCell ⟨mb, 0, none⟩ v') := by
 have hrow := h.row
 have hblk : ∀ b, b < w.heap.size -> v.ownBlock ≠ some b -> w1.heap[b]? = w.heap[b]? := fun b hb hne => hg.block b hb (fun e => hne e.symm)
 have hm1 : w1.heap[mb]? = w.heap[mb]? := hblk mb h.lt (fun e => (hrow mb e).2.2.1 rfl)
 have ec : ∀ o, w1.cell? ⟨mb, o, none⟩ = w.cell? ⟨mb, o, none⟩ := fun o => World.cell?_of_block (w := w) hm1
 have es : ∀ o, o ≠ 0 -> (w1.setCell ⟨mb, 0, none⟩ v').cell? ⟨mb, o, none⟩ = w.cell? ⟨mb, o, none⟩ := fun o ho => by
  rw [World.cell?_setCell_other _ _ _ _ (by intro e; cases e; exact ho rfl), ec]
 have hbs : ∀ b, b ≠ mb -> (w1.setCell ⟨mb, 0, none⟩ v').heap[b]? = w1.heap[b]? := fun b hb => Below.heap_setCell _ _ _ _ hb
 have hv' : ∀ k, v'.ownBlock = some k -> k ≠ mb := fun k hk e => by
  have := (ho.lt k hk).1
  have := h.mlt
  omega
 have hgm : w1.heap[gm]? = w.heap[gm]? := hblk gm h.gmap.lt (fun e => (hrow gm e).2.2.2.1 rfl)
 refine ⟨⟨?_, ?_, ?_, ?_, ?_, ?_, ?_, ?_, ?_, h.lnil, h.mlt, ?_, h.gne, h.lne⟩, ?_, hn⟩
 ·exact World.cell?_setCell_same _ _ _ (by rw [ec]; exact h.wd)
 ·rw [es _ (by omega)]; exact h.pl
 ·rw [es _ (by omega)]; exact h.gl
 ·rw [es _ (by omega)]; exact h.lo
 ·rw [es _ (by omega)]; exact h.rs
 ·intro o; rw [World.frozen?_setCell, World.frozen?_of_block (w := w) hm1]; exact h.frz o
 ·have h2 : (w1.setCell ⟨mb, 0, none⟩ v').ownsRow base 3 1 v' (M.words.length + ks.length) (M.words.map (.int .i64) ++ ks.map (.int .i64)) := by
   obtain ⟨o1, o2⟩ := ho
   refine ⟨o1, ?_⟩
   rcases o2 with o2 | ⟨g, cap, cur, hv, hgb, hh, r⟩
   ·exact .inl o2
   ·exact .inr ⟨g, cap, cur, hv, hgb, by rw [hbs g (hv' g (by rw [hv]; rfl))]; exact hh, r⟩
  simpa using h2
 ·exact h.gmap.block (by rw [hbs gm h.gne]; exact hgm)
 ·intro b hb
  have hb1 : w1.heap[b]? = w.heap[b]? := hblk b (h.lmap b hb).lt (fun e => (hrow b e).2.2.2.2 b hb rfl)
  exact (h.lmap b hb).block (by rw [hbs b (h.lne b hb).1]; exact hb1)
 ·have := hg.size; have := h.bas; simp [World.setCell]; omega
 ·refine ⟨hg.os, hg.tape, hg.output, by have := hg.size; simp [World.setCell]; omega, fun k hk hn2 => ?_⟩
  rw [hbs k (fun e => hn2 (.inl e))]
  exact hblk k hk (fun e => hn2 (.inr e))
theorem owned_slice {w : World} {base : Nat} {e : TypeId} {size : Nat} {v : Value} {n : Nat} {xs : List Value} (h : w.ownsRow base e size v n xs) : ∃ a c, v = .slice a n c := by
 rcases h.2 with ⟨rfl, e⟩ | ⟨g, cap, cur, rfl, _⟩
 ·exact ⟨none, 0, by rw [e]⟩
 ·exact ⟨_, _, rfl⟩
theorem lay_any (h : MK base mb gm ng nl lm w M v) {pb pc : Nat} {ks : List Int} (hks : ∀ j u, (ks.map (Value.int .i64))[j]? = some u -> w.cell? ((⟨pb, 0, none⟩ : Addr).add j) = some u) (hbig : M.words.length + ks.length <= 1000000) :
  Calls Tryz.prog 101 #[.pointer (some ⟨mb, 0, none⟩), .slice (some ⟨pb, 0, none⟩) ks.length pc] w fun e w' => e = .returned (.int .i64 M.words.length) /\ ∃ v', MK base mb gm ng nl lm w' { M with words := M.words ++ ks } v' /\ Mv mb v v' w w' := by
 obtain ⟨i0, hi, hz0, hz1, hz2⟩ := info_parts Tryz.infoIntC
 have hwd := h.wd
 have hf0 := h.frz 0
 have hown := h.own
 have hlen : ∀ ty W, (Builtin.len_ #[23] ty #[v]).run Tryz.prog W = .ok (.int .i64 M.words.length) W := by
  intro ty W
  rcases h.own.2 with ⟨rfl, e⟩ | ⟨g, cap, cur, rfl, _⟩
  ·rw [e]; kernel_rfl
  ·kernel_rfl
 have hbas := h.bas
 have hrow := h.row
 have hlt := h.lt
 go_enter Tryz.func101, Tryz.ntmps101
 go_wp2_with (first
  | (at_builtin; refine wpList_append_own2 rfl _ _ 23 rfl base 3 i0 _ 1 8 Tryz.underlying23 hi hz0 hz1 hz2 rfl (by decide) _ _ _ rfl hown ⟨pb, 0, none⟩ ks.length pc (ks.map (.int .i64)) rfl (by simp) hks ?h1 ?h63 ?hby ?hbase ?hh
     case h1 => intro u hu; obtain ⟨k, _, rfl⟩ := List.mem_map.1 hu; rfl
     case h63 => unfold maxLen; omega
     case hby => omega
     case hbase => exact hbas
     intro v' w1 hown1 hg1 hn1
     obtain ⟨va, vc, rfl⟩ := owned_slice hown1
     have hm1 : w1.cell? ⟨mb, 0, none⟩ = some v := hg1.cell hwd (fun e => (hrow mb e.symm).2.2.1 rfl)
     have hfz1 : w1.frozen? ⟨mb, 0, none⟩ = false := (World.frozen?_of_block (w := w) (hg1.block mb hlt (fun e => (hrow mb e.symm).2.2.1 rfl))).trans hf0
     have X : Aside (MK base mb gm ng nl lm (w1.setCell ⟨mb, 0, none⟩ (.slice va (M.words.length + ks.length) vc)) { M with words := M.words ++ ks } (.slice va (M.words.length + ks.length) vc) /\ Mv mb v (.slice va (M.words.length + ks.length) vc) w (w1.setCell ⟨mb, 0, none⟩ (.slice va (M.words.length + ks.length) vc))) := h.grow hg1 hown1 hn1))
 go_ret
 exact ⟨rfl, _, X.out.1, X.out.2⟩
end
theorem Tryz.zeroGlobal (w : World) : (zeroValue 245).run Tryz.prog w = .ok (symV (0, 0)) w := by
 have h : (Tryz.prog.info? 245).map (fun i => i.zero) = some (some (symV (0, 0))) := by kernel_rfl
 obtain ⟨i, hi, hz⟩ := Option.map_eq_some_iff.1 h
 simp [zeroValue, typeInfo, hi, hz]
theorem Tryz.zeroInt (w : World) : (zeroValue 3).run Tryz.prog w = .ok (.int .i64 0) w := by
 have h : (Tryz.prog.info? 3).map (fun i => i.zero) = some (some (.int .i64 0)) := by kernel_rfl
 obtain ⟨i, hi, hz⟩ := Option.map_eq_some_iff.1 h
 simp [zeroValue, typeInfo, hi, hz]
theorem MapIs.lookupG {w : World} {b n : Nat} {f : ByteArray -> Nat × Nat} (h : MapIs w b n f) {key : ByteArray} (hk : key.size <= maxLen) :
  (Instr.lookup 170 (.map (some b)) (.string key) false).run Tryz.prog w = .ok (symV (f key)) w := by
 obtain ⟨D, h1, _, h3⟩ := h
 obtain ⟨v, ps, hrun, hv⟩ := h1.lookup Tryz.keyedStr Tryz.underlying170 (Tryz.zeroGlobal w) (zd := .held (symV (0, 0))) (zp := []) rfl (WideMaps.keyOf_string_mk Tryz.underlying9 hk)
 rw [h3 key hk] at hv
 unfold symR at hv
 simp only [Option.some.injEq, Prod.mk.injEq, DataW.held.injEq] at hv
 rw [<- hv.1]
 exact hrun
theorem putSym_putG (f : ByteArray -> Nat × Nat) (n : ByteArray) (x : Nat × Nat) : putSym f n x = putG f n x := by
 funext k; unfold putSym putG eqB; rfl
theorem MapIs.updateG {w : World} {b n : Nat} {f : ByteArray -> Nat × Nat} (h : MapIs w b n f) {key : ByteArray} (hk : key.size <= maxLen) (hn : n < maxLen) (s : Nat × Nat) :
  ∃ w', (Instr.mapUpdate 170 (.map (some b)) (.string key) (symV s)).run Tryz.prog w = .ok () w' /\ MapIs w' b (n + 1) (putG f key s) /\ w.grownBy w' (some b) := by
 obtain ⟨D, h1, h2, h3⟩ := h
 have hkey := WideMaps.keyOf_string_mk (P := Tryz.prog) Tryz.underlying9 hk
 obtain ⟨w', hr, h4, h5⟩ := h1.update Tryz.keyedStr Tryz.underlying170 hn hkey (val := symV s) (d := .held (symV s)) (ps := []) rfl
 refine ⟨w', hr, ⟨_, h4, h2.put _ _, fun key2 hk2 => ?_⟩, h5⟩
 rw [<- putSym_putG]
 unfold putSym
 by_cases e : (key.toList == key2.toList) = true
 ·have e2 : key.toList = key2.toList := by simpa using e
  rw [if_pos e]
  rw [Lib.toList_data, Lib.toList_data] at e2
  rw [<- e2]
  exact Maps.atKey_put_same h2 (Tryz.keyedStr.key hkey) _ _
 ·rw [if_neg e]
  have e2 : key2.data.toList ≠ key.data.toList := fun e3 => e (by rw [Lib.toList_data, Lib.toList_data, e3]; simp)
  rw [Maps.atKey_put_other (by intro e3; injection e3 with e4; exact e2 e4)]
  exact h3 key2 hk2
section
variable {w : World} {b n : Nat} {l : ByteArray -> Option Nat} {many : Nat}
theorem LocIs.look (h : LocIs w b n l many) {key : ByteArray} (hk : key.size <= maxLen) :
  (Instr.lookup 171 (.map (some b)) (.string key) true).run Tryz.prog w = .ok (.tuple #[.int .i64 ((l key).getD 0 : Nat), .bool (l key).isSome]) w := by
 obtain ⟨D, h1, _, _, h3⟩ := h
 obtain ⟨v, ps, hrun, hv⟩ := h1.look_ok Tryz.keyedStr Tryz.underlying171 (Tryz.zeroInt w) (zd := .held (.int .i64 0)) (zp := []) rfl (WideMaps.keyOf_string_mk Tryz.underlying9 hk)
 obtain ⟨a1, a2⟩ := h3 key hk
 rw [a2] at hv
 unfold symR at hv
 simp only [Option.some.injEq, Prod.mk.injEq, DataW.held.injEq] at hv
 rw [<- hv.1, <- a1]
 exact hrun
theorem LocIs.len (h : LocIs w b n l many) (ty : TypeId) : (Builtin.len_ #[171] ty #[.map (some b)]).run Tryz.prog w = .ok (.int .i64 many) w := by
 obtain ⟨D, h1, _, h2, _⟩ := h
 rw [h1.len Tryz.underlying171 ty, h2]
theorem locNil (w : World) {key : ByteArray} (hk : key.size <= maxLen) : (Instr.lookup 171 (.map none) (.string key) true).run Tryz.prog w = .ok (.tuple #[.int .i64 0, .bool false]) w :=
 Maps.look_nil true Tryz.keyedStr Tryz.underlying171 (Tryz.zeroInt w) (WideMaps.keyOf_string_mk Tryz.underlying9 hk)
theorem locIs_made (w : World) : LocIs (w.alloc (.map #[] 0)) w.heap.size 0 (fun _ => none) 0 :=
 ⟨.map [], World.ownsMap_made w _ _ _, Maps.tidy_empty, rfl, fun _ _ => ⟨rfl, rfl⟩⟩
def putL (l : ByteArray -> Option Nat) (n : ByteArray) (k : Nat) : ByteArray -> Option Nat := fun x => if eqB n x then some k else l x
theorem LocIs.put (h : LocIs w b n l many) {key : ByteArray} (hk : key.size <= maxLen) (hn : n < maxLen) (hno : l key = none) (k : Nat) :
  ∃ w', (Instr.mapUpdate 171 (.map (some b)) (.string key) (.int .i64 k)).run Tryz.prog w = .ok () w' /\ LocIs w' b (n + 1) (putL l key k) (many + 1) /\ w.grownBy w' (some b) := by
 obtain ⟨D, h1, ht, h2, h3⟩ := h
 have hkey := WideMaps.keyOf_string_mk (P := Tryz.prog) Tryz.underlying9 hk
 obtain ⟨w', hr, h4, h5⟩ := h1.update Tryz.keyedStr Tryz.underlying171 hn hkey (val := .int .i64 k) (d := .held (.int .i64 k)) (ps := []) rfl
 have hkl := Tryz.keyedStr.key hkey
 refine ⟨w', hr, ⟨_, h4, ht.put hkl _, ?_, fun key2 hk2 => ?_⟩, h5⟩
 ·rw [Maps.size_put ht, (h3 key hk).1, hno, h2]; rfl
 ·unfold putL eqB
  by_cases e : (key.toList == key2.toList) = true
  ·have e2 : key.toList = key2.toList := by simpa using e
   rw [if_pos e]
   rw [Lib.toList_data, Lib.toList_data] at e2
   rw [<- e2]
   exact ⟨Maps.has_put_same ht.isMap hkl _, Maps.atKey_put_same ht.isMap hkl _ _⟩
  ·rw [if_neg e]
   have e2 : key2.data.toList ≠ key.data.toList := fun e3 => e (by rw [Lib.toList_data, Lib.toList_data, e3]; simp)
   have hne : (Lit.string key2.data.toList) ≠ .string key.data.toList := by intro e3; injection e3 with e4; exact e2 e4
   rw [Maps.has_put_other hne, Maps.atKey_put_other hne]
   exact h3 key2 hk2
end
section
variable {base mb gm ng nl : Nat} {lm : Option Nat} {w w' : World} {M : Mkr} {v v' : Value}
theorem MK.stored (h : MK base mb gm ng nl lm w M v) {g cap : Nat} (hv : v = .slice (some ⟨g, 0, none⟩) M.words.length cap) (j : Nat) (k : Int) :
  MK base mb gm ng nl lm (w.setCell ⟨g, j, none⟩ (.int .i64 k)) { M with words := M.words.set j k } v /\ Mv mb v v w (w.setCell ⟨g, j, none⟩ (.int .i64 k)) := by
 subst hv
 obtain ⟨_, hgl, hgm, hgg, hgb⟩ := h.row g rfl
 have hbs : ∀ b, b ≠ g -> (w.setCell ⟨g, j, none⟩ (.int .i64 k)).heap[b]? = w.heap[b]? := fun b hb => Below.heap_setCell _ _ _ _ hb
 have es : ∀ o, (w.setCell ⟨g, j, none⟩ (.int .i64 k)).cell? ⟨mb, o, none⟩ = w.cell? ⟨mb, o, none⟩ := fun o => World.cell?_setCell_other _ _ _ _ (by intro e; cases e; exact hgm rfl)
 refine ⟨⟨?_, ?_, ?_, ?_, ?_, ?_, ?_, ?_, ?_, h.lnil, h.mlt, ?_, h.gne, h.lne⟩, ?_, .inl rfl⟩
 ·rw [es]; exact h.wd
 ·rw [es]; exact h.pl
 ·rw [es]; exact h.gl
 ·rw [es]; exact h.lo
 ·rw [es]; exact h.rs
 ·intro o; rw [World.frozen?_setCell]; exact h.frz o
 ·have h2 := h.own.stored j (.int .i64 k)
  rw [List.length_set, List.map_set]
  exact h2.1
 ·exact h.gmap.block (hbs gm (Ne.symm hgg))
 ·intro b hb; exact (h.lmap b hb).block (hbs b (fun e => hgb b hb e.symm))
 ·have := h.bas; simp [World.setCell]; omega
 ·exact ⟨rfl, rfl, rfl, by simp [World.setCell], fun b hb hn => hbs b (fun e => hn (.inr (by rw [e]; rfl)))⟩
theorem aim_any (h : MK base mb gm ng nl lm w M v) {jump : Nat} (hj : jump + 1 < M.words.length) (hbig : M.words.length <= 1000000) :
  Calls Tryz.prog 184 #[.pointer (some ⟨mb, 0, none⟩), .int .i64 jump] w fun e w' => e = .returned (.tuple #[]) /\ MK base mb gm ng nl lm w' { M with words := M.words.set (jump + 1) M.words.length } v /\ Mv mb v v w w' := by
 obtain ⟨g, cap, hv, _, _⟩ := h.own.form (by omega)
 have hwd := h.wd
 have hown := h.own
 rw [hv] at hwd hown
 have hc := hown.cellAt (jump + 1) (by simpa using hj)
 rw [List.getElem?_map, List.getElem?_eq_getElem hj] at hc
 have hcell : w.cell? ⟨g, jump + 1, none⟩ = some (.int .i64 M.words[jump + 1]) := hc
 have hfz : w.frozen? ⟨g, jump + 1, none⟩ = false := hown.frozenAt (jump + 1)
 have X : Aside (MK base mb gm ng nl lm (w.setCell ⟨g, jump + 1, none⟩ (.int .i64 M.words.length)) { M with words := M.words.set (jump + 1) M.words.length } v /\ Mv mb v v w (w.setCell ⟨g, jump + 1, none⟩ (.int .i64 M.words.length))) := h.stored hv (jump + 1) M.words.length
 have hji : ((jump : Int) + 1) < M.words.length := by omega
 clear hc hown
 go_enter Tryz.func184, Tryz.ntmps184
 go_wp2
 go_region
 all_goals go_wp2
 all_goals go_end0
 all_goals exact ⟨rfl, X.out.1.below (Below.refl _ _).drew, X.out.2.trans (Mv.of_below (Below.refl _ _).drew)⟩
theorem MK.len (h : MK base mb gm ng nl lm w M v) (ty : TypeId) : (Builtin.len_ #[171] ty #[.map lm]).run Tryz.prog w = .ok (.int .i64 M.E.n) w := by
 cases hl : lm with
 | none => rw [(h.lnil hl).2]; exact Maps.len_nil Tryz.underlying171 ty
 | some b => exact (h.lmap b hl).len ty
theorem MK.look (h : MK base mb gm ng nl lm w M v) {n : ByteArray} (hn : n.size <= maxLen) : (Instr.lookup 171 (.map lm) (.string n) true).run Tryz.prog w = .ok (.tuple #[.int .i64 ((M.E.l n).getD 0 : Nat), .bool (M.E.l n).isSome]) w := by
 cases hl : lm with
 | none => rw [(h.lnil hl).1 n]; exact locNil w hn
 | some b => exact (h.lmap b hl).look hn
theorem resultPlace_any (h : MK base mb gm ng nl lm w M v) :
  Calls Tryz.prog 154 #[.pointer (some ⟨mb, 0, none⟩)] w fun e w' => e = .returned (.int .i64 M.E.n) /\ w' = w := by
 have hlo := h.lo
 have hlen := h.len
 go_enter Tryz.func154, Tryz.ntmps154
 go_wp2
 go_ret
 exact ⟨rfl, rfl⟩
def MPost (base mb gm ng nl : Nat) (lm : Option Nat) (M' : Mkr) (v : Value) (w : World) (e : Ending) (w' : World) : Prop :=
 e = .returned (.tuple #[]) /\ ∃ v', MK base mb gm ng nl lm w' M' v' /\ Mv mb v v' w w'
def Mkr.more (M : Mkr) (ks : List Int) : Mkr := { M with words := M.words ++ ks }
theorem newCells (W : World) (cs : List Int) (t : TypeId) : ∀ j u, (cs.map (Value.int .i64))[j]? = some u -> (W.alloc (.cells (cs.map (Value.int .i64)).toArray t)).cell? ((⟨W.heap.size, 0, none⟩ : Addr).add j) = some u := by
 intro j u hj
 have e : (⟨W.heap.size, 0, none⟩ : Addr).add j = ⟨W.heap.size, j, none⟩ := by
  cases j with
  | zero => simp [Addr.add]
  | succ j => simp [Addr.add]
 rw [e, World.cell?_alloc_new]
 simpa using hj
theorem layB (h : MK base mb gm ng nl lm w M v) {W : World} (hb : Below w.heap.size w W) {pb pc : Nat} {ks : List Int} (hks : ∀ j u, (ks.map (Value.int .i64))[j]? = some u -> W.cell? ((⟨pb, 0, none⟩ : Addr).add j) = some u) (hbig : M.words.length + ks.length <= 1000000) :
  Calls Tryz.prog 101 #[.pointer (some ⟨mb, 0, none⟩), .slice (some ⟨pb, 0, none⟩) ks.length pc] W fun e w' => e = .returned (.int .i64 M.words.length) /\ ∃ v', MK base mb gm ng nl lm w' (M.more ks) v' /\ Mv mb v v' w w' :=
 (lay_any (h.below hb) hks hbig).mono fun _ _ ⟨he, v', h1, h2⟩ => ⟨he, v', h1, (Mv.of_below hb).trans h2⟩
theorem lay1 (h : MK base mb gm ng nl lm w M v) (A : Obj) (ks : List Int) (t : TypeId) (hbig : M.words.length + ks.length <= 1000000) :
  Calls Tryz.prog 101 #[.pointer (some ⟨mb, 0, none⟩), .slice (some ⟨w.heap.size + 1, 0, none⟩) ks.length ks.length] ((w.alloc A).alloc (.cells (ks.map (Value.int .i64)).toArray t)).drew
   fun e w' => e = .returned (.int .i64 M.words.length) /\ ∃ v', MK base mb gm ng nl lm w' (M.more ks) v' /\ Mv mb v v' w w' := by
 refine layB h (((Below.refl _ _).alloc (Nat.le_refl _) A).alloc (by simp) _).drew ?_ hbig
 have := newCells (w.alloc A) ks t
 rw [show (w.alloc A).heap.size = w.heap.size + 1 from by simp] at this
 exact this
theorem lay1d (h : MK base mb gm ng nl lm w M v) (A : Obj) (ks : List Int) (t : TypeId) (hbig : M.words.length + ks.length <= 1000000) :
  Calls Tryz.prog 101 #[.pointer (some ⟨mb, 0, none⟩), .slice (some ⟨w.heap.size + 1, 0, none⟩) ks.length ks.length] ((w.alloc A).alloc (.cells (ks.map (Value.int .i64)).toArray t)).drew.drew
   fun e w' => e = .returned (.int .i64 M.words.length) /\ ∃ v', MK base mb gm ng nl lm w' (M.more ks) v' /\ Mv mb v v' w w' := by
 refine layB h ((((Below.refl _ _).alloc (Nat.le_refl _) A).alloc (by simp) _).drew).drew ?_ hbig
 have := newCells (w.alloc A) ks t
 rw [show (w.alloc A).heap.size = w.heap.size + 1 from by simp] at this
 exact this
theorem lay1t (h : MK base mb gm ng nl lm w M v) (A : Obj) (ks : List Int) (t : TypeId) (hbig : M.words.length + ks.length <= 1000000) :
  Calls Tryz.prog 101 #[.pointer (some ⟨mb, 0, none⟩), .slice (some ⟨w.heap.size + 1, 0, none⟩) ks.length ks.length] ((w.alloc A).alloc (.cells (ks.map (Value.int .i64)).toArray t)).drew.drew.drew
   fun e w' => e = .returned (.int .i64 M.words.length) /\ ∃ v', MK base mb gm ng nl lm w' (M.more ks) v' /\ Mv mb v v' w w' := by
 refine layB h (((((Below.refl _ _).alloc (Nat.le_refl _) A).alloc (by simp) _).drew).drew).drew ?_ hbig
 have := newCells (w.alloc A) ks t
 rw [show (w.alloc A).heap.size = w.heap.size + 1 from by simp] at this
 exact this
theorem gField0 (a b : Int) (w : World) : (Instr.field 245 (.agg #[.int .i64 a, .int .i64 b]) 0).run Tryz.prog w = .ok (.int .i64 a) w := by kernel_rfl
theorem gField1 (a b : Int) (w : World) : (Instr.field 245 (.agg #[.int .i64 a, .int .i64 b]) 1).run Tryz.prog w = .ok (.int .i64 b) w := by kernel_rfl
theorem get_any (h : MK base mb gm ng nl lm w M v) {n : ByteArray} (hn : n.size <= maxLen) (p : Nat) (hbig : M.words.length + 2 <= 1000000) :
  Calls Tryz.prog 181 #[.pointer (some ⟨mb, 0, none⟩), .agg #[.string n, .int .i64 p]] w (MPost base mb gm ng nl lm (M.more ((M.E.get n).map Int.ofNat)) v w) := by
 have hlt := h.lt
 have k1 : ∀ A, Below w.heap.size w (w.alloc A) := fun A => (Below.refl _ _).alloc (Nat.le_refl _) _
 have hlo : ∀ A, (w.alloc A).cell? ⟨mb, 3, none⟩ = some (.map lm) := fun A => (h.below (k1 A)).lo
 have hgl : ∀ A, (w.alloc A).cell? ⟨mb, 2, none⟩ = some (.map (some gm)) := fun A => (h.below (k1 A)).gl
 have hL := fun A => (h.below ((k1 A).drew)).look hn
 have hf0 := gField0
 cases hl : M.E.l n with
 | some a =>
  rw [hl] at hL
  have e : M.E.get n = [5, a] := by unfold CE.get; rw [hl]
  rw [e]
  have hLy := fun A => lay1 h A [5, (a : Int)] 3 (by simpa using hbig)
  go_enter Tryz.func181, Tryz.ntmps181
  go_wp2
  go_region
  all_goals go_wp2_with (go_at_call 101; refine (hLy _).mono ?_; rintro e w2 ⟨rfl, v2, hM2, hv2⟩)
  all_goals go_end0
  all_goals exact ⟨rfl, v2, hM2, hv2⟩
 | none =>
  rw [hl] at hL
  have e : M.E.get n = [3, (M.E.g n).1] := by unfold CE.get; rw [hl]
  rw [e]
  have hG := fun A => (h.below (((k1 A).drew).drew)).gmap.lookupG hn
  have hLy := fun A => lay1d h A [3, ((M.E.g n).1 : Int)] 3 (by simpa using hbig)
  unfold symV at hG
  generalize M.E.g n = gn at *
  go_enter Tryz.func181, Tryz.ntmps181
  go_wp2
  go_region
  all_goals go_wp2
  all_goals go_region_with (go_at_call 101; refine (hLy _).mono ?_; rintro e w2 ⟨rfl, v2, hM2, hv2⟩)
  all_goals go_wp2
  all_goals go_end0
  all_goals exact ⟨rfl, v2, hM2, hv2⟩
theorem set_any (h : MK base mb gm ng nl lm w M v) {n : ByteArray} (hn : n.size <= maxLen) (p : Nat) (hbig : M.words.length + 2 <= 1000000) :
  Calls Tryz.prog 156 #[.pointer (some ⟨mb, 0, none⟩), .agg #[.string n, .int .i64 p]] w (MPost base mb gm ng nl lm (M.more ((M.E.set n).map Int.ofNat)) v w) := by
 have hlt := h.lt
 have k1 : ∀ A, Below w.heap.size w (w.alloc A) := fun A => (Below.refl _ _).alloc (Nat.le_refl _) _
 have hlo : ∀ A, (w.alloc A).cell? ⟨mb, 3, none⟩ = some (.map lm) := fun A => (h.below (k1 A)).lo
 have hgl : ∀ A, (w.alloc A).cell? ⟨mb, 2, none⟩ = some (.map (some gm)) := fun A => (h.below (k1 A)).gl
 have hrs : ∀ A, (w.alloc A).cell? ⟨mb, 4, none⟩ = some (.string M.E.res) := fun A => (h.below (k1 A)).rs
 have hL := fun A => (h.below ((k1 A).drew)).look hn
 have hf0 := gField0
 cases hl : M.E.l n with
 | some a =>
  rw [hl] at hL
  have e : M.E.set n = [6, a] := by unfold CE.set; rw [hl]
  rw [e]
  have hLy := fun A => lay1 h A [6, (a : Int)] 3 (by simpa using hbig)
  go_enter Tryz.func156, Tryz.ntmps156
  go_wp2
  go_region
  all_goals go_wp2_with (go_at_call 101; refine (hLy _).mono ?_; rintro e w2 ⟨rfl, v2, hM2, hv2⟩)
  all_goals go_end0
  all_goals exact ⟨rfl, v2, hM2, hv2⟩
 | none =>
  rw [hl] at hL
  have hR := fun A => resultPlace_any (h.below (((k1 A).drew).drew))
  by_cases hr : eqB n M.E.res = true
  ·have e : M.E.set n = [6, M.E.n] := by unfold CE.set; rw [hl]; simp only [hr, if_true]
   rw [e]
   have hrb : (n.toList == M.E.res.toList) = true := hr
   have hLy := fun A => lay1d h A [6, (M.E.n : Int)] 3 (by simpa using hbig)
   generalize M.E.res = res at *
   generalize M.E.n = en at *
   go_enter Tryz.func156, Tryz.ntmps156
   go_wp2
   go_region
   all_goals go_wp2
   all_goals go_region
   all_goals go_wp2_with (first
    | (go_at_call 154; refine (hR _).mono ?_; rintro e w1 ⟨rfl, h9⟩; cases h9)
    | (go_at_call 101; refine (hLy _).mono ?_; rintro e w2 ⟨rfl, v2, hM2, hv2⟩))
   all_goals go_end0
   all_goals exact ⟨rfl, v2, hM2, hv2⟩
  ·have hr' : eqB n M.E.res = false := by simpa using hr
   have e : M.E.set n = [4, (M.E.g n).1] := by unfold CE.set; rw [hl]; simp only [hr']; rfl
   rw [e]
   have hrb : (n.toList == M.E.res.toList) = false := hr'
   have hG := fun A => (h.below ((((k1 A).drew).drew).drew)).gmap.lookupG hn
   have hLy := fun A => lay1t h A [4, ((M.E.g n).1 : Int)] 3 (by simpa using hbig)
   unfold symV at hG
   generalize M.E.g n = gn at *
   generalize M.E.res = res at *
   go_enter Tryz.func156, Tryz.ntmps156
   go_wp2
   go_region
   all_goals go_wp2
   all_goals go_region
   all_goals go_wp2
   all_goals go_region_with (go_at_call 101; refine (hLy _).mono ?_; rintro e w2 ⟨rfl, v2, hM2, hv2⟩)
   all_goals go_wp2
   all_goals go_end0
   all_goals exact ⟨rfl, v2, hM2, hv2⟩
end
end Go.Proofs.YtklobognaldjpaaGreat
