/- The program's look at names: what is declared. The program's look at names: what is declared, against the plain look. The program's look at names: into a routine and out of it. -/
import Derived.Test.YtklobognaldjpaaGreatCLk6
set_option maxRecDepth 100000
set_option maxHeartbeats 1000000
namespace Go.Proofs.YtklobognaldjpaaGreat
open Go.RowKit
structure Fr (S : Nat -> Prop) (w w' : World) : Prop where
 os : w'.os = w.os
 tape : w'.tape = w.tape
 output : w'.output = w.output
 size : w.heap.size <= w'.heap.size
 block : ∀ k, k < w.heap.size -> ¬ S k -> w'.heap[k]? = w.heap[k]?
theorem Fr.refl (S : Nat -> Prop) (w : World) : Fr S w w := ⟨rfl, rfl, rfl, Nat.le_refl _, fun _ _ _ => rfl⟩
theorem Fr.trans {S : Nat -> Prop} {a b c : World} (h : Fr S a b) (k : Fr S b c) : Fr S a c :=
 ⟨k.os.trans h.os, k.tape.trans h.tape, k.output.trans h.output, Nat.le_trans h.size k.size, fun i hi hn => (k.block i (Nat.lt_of_lt_of_le hi h.size) hn).trans (h.block i hi hn)⟩
theorem Fr.weak {S S' : Nat -> Prop} {a b : World} (h : Fr S a b) (hs : ∀ k, k < a.heap.size -> S k -> S' k) : Fr S' a b := ⟨h.os, h.tape, h.output, h.size, fun k hk hn => h.block k hk fun h1 => hn (hs k hk h1)⟩
theorem Fr.of_par {lb : Nat} {S : Nat -> Prop} {a b : World} (h : Par lb a b) (hs : S lb) : Fr S a b := ⟨h.os, h.tape, h.output, h.size, fun k hk hn => h.block k hk fun h1 => hn (h1 ▸ hs)⟩
theorem Fr.of_below {S : Nat -> Prop} {w w' : World} (h : Below w.heap.size w w') : Fr S w w' := ⟨h.os, h.tape, h.output, h.size, fun k hk _ => h.block k hk⟩
theorem Fr.of_grown {mb : Nat} {S : Nat -> Prop} {a b : World} (h : a.grownBy b (some mb)) (hs : S mb) : Fr S a b := ⟨h.os, h.tape, h.output, h.size, fun k hk hn => h.block k hk fun h1 => hn (by injection h1 with h2; exact h2 ▸ hs)⟩
theorem Fr.cell {S : Nat -> Prop} {a b : World} (h : Fr S a b) {k : Nat} (hk : k < a.heap.size) (hn : ¬ S k) (o : Nat) : b.cell? ⟨k, o, none⟩ = a.cell? ⟨k, o, none⟩ := World.cell?_of_block (w := a) (h.block k hk hn)
theorem Fr.keepQ {S Q : Nat -> Prop} {a b : World} (h : Fr S a b) (hq : ∀ b, Q b -> ¬ S b) : KeepQ Q a b := ⟨h.size, fun k hk hl => h.block k hl (hq k hk)⟩
section
variable {lb gm ng nl : Nat} {lm : Option Nat} {w w' : World} {c : Nat × Nat} {L : PEnv} {E : Env} {Q : Nat -> Prop}
theorem parNew2 {lb : Nat} {w w' : World} {A B : Array Value} {t u : TypeId} (h : lb < w.heap.size) (hk : Par lb ((w.alloc (.cells A t)).alloc (.cells B u)).drew w') :
  (∀ o, w'.cell? ⟨w.heap.size, o, none⟩ = A[o]?) /\ (∀ o, w'.cell? ⟨w.heap.size + 1, o, none⟩ = B[o]?) := by
 constructor
 ·intro o
  rw [parCell hk (by simp; omega) (by omega)]
  show ((w.alloc (.cells A t)).alloc (.cells B u)).cell? _ = _
  rw [World.cell?_alloc_lt _ _ _ (by simp)]
  exact World.cell?_alloc_new w A t o
 ·intro o
  rw [parCell hk (by simp) (by omega)]
  show ((w.alloc (.cells A t)).alloc (.cells B u)).cell? _ = _
  have e : w.heap.size + 1 = (w.alloc (.cells A t)).heap.size := by simp
  rw [e]
  exact World.cell?_alloc_new (w.alloc (.cells A t)) B u o
theorem wpList_mapUpdate_is (w : World) {ops : Array Oper} {rest : List Oper} {o : Oper} {a : Act} {Q : Exit -> Act -> World -> Prop}
  (hg : o.guard = none) (m x v : Operand) (hop : o.op = Op.mapUpdate 201 m x v) (b n : Nat) (f : ByteArray -> Nat × Nat)
  (hm : a.eval m = .map (some b)) (h : MapIs w b n f) (hn : n < maxLen) (key : ByteArray) (s : Nat × Nat) (hx : a.eval x = .string key) (hv : a.eval v = symV s) (hk : key.size <= maxLen)
  (hK : ∀ w', MapIs w' b (n + 1) (putSym f key s) -> w.grownBy w' (some b) -> wpList Tryz.prog ops Q rest (a.put o.dst undef) w') :
  wpList Tryz.prog ops Q (o :: rest) a w := by
 refine wpList_plain hg fun K' hK' => ?_
 obtain ⟨w', hrun, r1, r2⟩ := h.update hk hn s
 unfold Oper.wp
 simp [execOp, hop, hm, hx, hv, hrun, Result.andThen]
 exact hK' _ _ (hK w' r1 r2)
theorem decl_core (h : PL lb gm ng nl lm w c L) {mb nm : Nat} {f : ByteArray -> Nat × Nat} (hM : MapIs w mb nm f) (hne : mb ≠ lb) (hnm : nm < maxLen) {n : ByteArray} (hn : n.size <= maxLen) (p : Nat) (s : Nat × Nat) :
  Calls Tryz.prog 147 #[.pointer (some ⟨lb, 0, none⟩), .map (some mb), .agg #[.string n, .int .i64 p], symV s] w fun e w' => e = .returned (.tuple #[]) /\ ∃ w2, PL lb gm ng nl lm w2 (tellF (if (f n).1 = 0 then none else some (6, p)) c) L /\ Par lb w w2 /\ MapIs w' mb (nm + 1) (putSym f n s) /\ w2.grownBy w' (some mb) := by
 have hlt := h.lt
 have hf0 := symField0
 have k2 : ∀ A B, Below w.heap.size w ((w.alloc A).alloc B) := fun A B => ((Below.refl _ _).alloc (Nat.le_refl _) _).alloc (by simp) _
 have hM2 : ∀ A B, MapIs ((w.alloc A).alloc B) mb nm f := fun A B => hM.par (Par.of_below (k2 A B)) hne
 have hL2 : ∀ A B, (Instr.lookup 201 (.map (some mb)) (.string n) false).run Tryz.prog ((w.alloc A).alloc B) = .ok (symV (f n)) ((w.alloc A).alloc B) := fun A B => (hM2 A B).lookup hn
 have hD : ∀ A B, PL lb gm ng nl lm ((w.alloc A).alloc B).drew c L := fun A B => h.below (k2 A B).drew
 generalize hfn : f n = sn at *
 unfold symV at hL2 ⊢
 by_cases hz : sn.1 = 0
 ·rw [if_pos hz, tellF_none]
  rw [hz] at hL2
  clear hz
  go_enter Tryz.func147, Tryz.ntmps147
  go_wp2_with (at_mapUpdate; refine wpList_mapUpdate_is _ rfl _ _ _ rfl mb nm f rfl (hM2 _ _) hnm n s rfl rfl hn ?_; intro w5 hM5 hg5)
  go_end0
  exact ⟨rfl, _, h.below (k2 _ _), Par.of_below (k2 _ _), hM5, hg5⟩
 ·rw [if_neg hz]
  have hzb : ((sn.1 : Int) != 0) = true := by simp; omega
  clear hz
  go_enter Tryz.func147, Tryz.ntmps147
  go_wp2
  go_region_with (go_at_call 148; refine (ltell_any (hD _ _) 6 p).mono ?_; rintro e w4 ⟨rfl, hP4, hk4⟩; have X := parNew2 hlt hk4; have x0 := X.1 0; have y0 := X.2 0; have y1 := X.2 1; clear X; have hk4' := (Par.of_below (pb := lb) (k2 _ _).drew).trans hk4; have hM4 := hM.par hk4' hne)
  all_goals go_wp2_with (at_mapUpdate; refine wpList_mapUpdate_is _ rfl _ _ _ rfl mb nm f rfl hM4 hnm n s rfl rfl hn ?_; intro w5 hM5 hg5)
  all_goals go_end0
  all_goals exact ⟨rfl, _, hP4, hk4', hM5, hg5⟩
end
section
variable {lb gm ng nl : Nat} {lm : Option Nat} {w w' : World} {c : Nat × Nat} {L : PEnv} {E : Env} {Q : Nat -> Prop}
theorem PL.growG (h : PL lb gm ng nl lm w c L) {n2 : Nat} {g2 : ByteArray -> Nat × Nat} (hM : MapIs w' gm n2 g2) (hg : w.grownBy w' (some gm)) : PL lb gm n2 nl lm w' c { L with g := g2 } := by
 have hl := h.lt
 have bl : ∀ b, b < w.heap.size -> b ≠ gm -> w'.heap[b]? = w.heap[b]? := fun b h1 h2 => hg.block b h1 (by simpa using h2)
 have e : ∀ o, w'.cell? ⟨lb, o, none⟩ = w.cell? ⟨lb, o, none⟩ := fun o => World.cell?_of_block (w := w) (bl lb hl (Ne.symm h.gne))
 exact ⟨by rw [e]; exact h.code, by rw [e]; exact h.at_, by rw [e]; exact h.gl, by rw [e]; exact h.lo, by rw [e]; exact h.rs, fun o => by rw [World.frozen?_of_block (a := ⟨lb, o, none⟩) (w := w) (bl lb hl (Ne.symm h.gne))]; exact h.frz o,
  hM, fun b hb => (h.lmap b hb).block (bl b (h.lmap b hb).lt (h.lne b hb).2), h.lnil, h.gne, h.lne⟩
theorem PL.growL {mb : Nat} (h : PL lb gm ng nl (some mb) w c L) {n2 : Nat} {l2 : ByteArray -> Nat × Nat} (hM : MapIs w' mb n2 l2) (hg : w.grownBy w' (some mb)) : PL lb gm ng n2 (some mb) w' c { L with l := l2 } := by
 have hl := h.lt
 have bl : ∀ b, b < w.heap.size -> b ≠ mb -> w'.heap[b]? = w.heap[b]? := fun b h1 h2 => hg.block b h1 (by simpa using h2)
 have hne := h.lne mb rfl
 have e : ∀ o, w'.cell? ⟨lb, o, none⟩ = w.cell? ⟨lb, o, none⟩ := fun o => World.cell?_of_block (w := w) (bl lb hl (Ne.symm hne.1))
 refine ⟨by rw [e]; exact h.code, by rw [e]; exact h.at_, by rw [e]; exact h.gl, by rw [e]; exact h.lo, by rw [e]; exact h.rs, fun o => by rw [World.frozen?_of_block (a := ⟨lb, o, none⟩) (w := w) (bl lb hl (Ne.symm hne.1))]; exact h.frz o,
  h.gmap.block (bl gm h.gmap.lt (Ne.symm hne.2)), fun b hb => ?_, (fun hb => by cases hb), h.gne, h.lne⟩
 injection hb with hb; subst hb; exact hM
theorem tell_none_of {f : Option (Nat × Nat)} (hf : Nz f) {c : Nat × Nat} (h : (tellF f c).1 = 0) : c.1 = 0 /\ f = none := by
 unfold tellF at h
 by_cases hc : c.1 = 0
 ·rw [if_pos hc] at h
  cases f with
  | none => exact ⟨hc, rfl⟩
  | some x => exact absurd h (hf x rfl)
 ·rw [if_neg hc] at h; exact absurd h hc
theorem tell_decl {c : Nat × Nat} {here : Bool} {f : ByteArray -> Nat × Nat} (hr : c.1 = 0 -> ∀ n, f n = symIn (E.row here) n) (n : ByteArray) (p kind args : Nat) :
  tellF (if (f n).1 = 0 then none else some (6, p)) c = tellF (declF E here n p kind args).2 c := by
 by_cases h : c.1 = 0
 ·have e := hr h n
  unfold declF
  by_cases h1 : (f n).1 = 0
  ·rw [e] at h1
   have h2 := (symIn_found _ _).1 h1
   rw [e, if_pos h1, h2]; rfl
  ·rw [if_neg h1]
   rw [e] at h1
   cases h2 : findLast (E.row here) n with
   | none => exact absurd ((symIn_found _ _).2 h2) h1
   | some k => rfl
 ·unfold tellF; rw [if_neg h, if_neg h]
theorem declF_none {here : Bool} {n : ByteArray} {p kind args : Nat} (h : (declF E here n p kind args).2 = none) : (declF E here n p kind args).1 = E.add here ⟨n, kind, args⟩ := by
 unfold declF at h ⊢
 split at h
 ·cases h
 ·rename_i h1; rw [if_neg h1]
theorem declF_inside (E : Env) (here : Bool) (n : ByteArray) (p kind args : Nat) : (declF E here n p kind args).1.inside = E.inside := by
 unfold declF; split
 ·rfl
 ·unfold Env.add; cases here <;> rfl
def noRes (L : PEnv) : PEnv := { L with res := ⟨#[]⟩ }
def DPost (lb gm ng nl : Nat) (lm : Option Nat) (res : ByteArray) (mb : Nat) (r : Env × Option (Nat × Nat)) (c : Nat × Nat) (w : World) (e : Ending) (w' : World) : Prop :=
 e = .returned (.tuple #[]) /\ ∃ L', PL lb gm ng nl lm w' (tellF r.2 c) L' /\ ((tellF r.2 c).1 = 0 -> Rep (noRes L') r.1) /\ L'.res = res /\ Fr (fun b => b = lb ∨ b = mb) w w' /\ (lm = none -> L'.l = fun _ => (0, 0))
theorem decl_glob (h : PL lb gm ng nl lm w c L) (hr : c.1 = 0 -> Rep (noRes L) E) (hi : E.inside = none) (hng : ng < maxLen) {n : ByteArray} (hn : n.size <= maxLen) (p kind args : Nat) (hl0 : lm = none -> L.l = fun _ => (0, 0)) :
  Calls Tryz.prog 147 #[.pointer (some ⟨lb, 0, none⟩), .map (some gm), .agg #[.string n, .int .i64 p], symV (kind + 1, args)] w (DPost lb gm (ng + 1) nl lm L.res gm (declF E false n p kind args) c w) := by
 refine (decl_core h h.gmap h.gne hng hn p (kind + 1, args)).mono ?_
 rintro e w' ⟨rfl, w2, hP2, hk2, hM, hg⟩
 have e1 := tell_decl (E := E) (here := false) (f := L.g) (c := c) (fun h0 => (hr h0).g) n p kind args
 rw [e1] at hP2
 refine ⟨rfl, _, hP2.growG hM hg, fun h0 => ?_, rfl, (Fr.of_par hk2 (.inl rfl)).trans (Fr.of_grown hg (.inr rfl)), hl0⟩
 obtain ⟨h1, h2⟩ := tell_none_of (nz_declF _ _ _ _ _ _) h0
 rw [declF_none h2]
 exact (hr h1).addGlob hi n kind args
theorem decl_here {mb : Nat} (h : PL lb gm ng nl (some mb) w c L) (hr : c.1 = 0 -> Rep (noRes L) E) (hnl : nl < maxLen) {n : ByteArray} (hn : n.size <= maxLen) (p : Nat) :
  Calls Tryz.prog 147 #[.pointer (some ⟨lb, 0, none⟩), .map (some mb), .agg #[.string n, .int .i64 p], symV (1, 0)] w (DPost lb gm ng (nl + 1) (some mb) L.res mb (declF E true n p 0 0) c w) := by
 refine (decl_core h (h.lmap mb rfl) (h.lne mb rfl).1 hnl hn p (1, 0)).mono ?_
 rintro e w' ⟨rfl, w2, hP2, hk2, hM, hg⟩
 have e1 := tell_decl (E := E) (here := true) (f := L.l) (c := c) (fun h0 => (hr h0).l) n p 0 0
 rw [e1] at hP2
 refine ⟨rfl, _, hP2.growL hM hg, fun h0 => ?_, rfl, (Fr.of_par hk2 (.inl rfl)).trans (Fr.of_grown hg (.inr rfl)), fun hb => by cases hb⟩
 obtain ⟨h1, h2⟩ := tell_none_of (nz_declF _ _ _ _ _ _) h0
 rw [declF_none h2]
 exact (hr h1).addHere n
theorem lookNames_take : ∀ (l : List (ByteArray × Nat)) (E : Env) (j : Nat) (x : ByteArray × Nat), l[j]? = some x ->
  lookNames E (l.take (j + 1)) = ((declF (lookNames E (l.take j)).1 true x.1 x.2 0 0).1, (lookNames E (l.take j)).2.or (declF (lookNames E (l.take j)).1 true x.1 x.2 0 0).2)
 | [], E, j, x, h => by simp at h
 | a :: l, E, 0, x, h => by
  simp at h; subst h
  rw [List.take_succ_cons, List.take_zero, List.take_zero, lookNames, lookNames, lookNames]
  cases (declF E true a.1 a.2 0 0).2 <;> rfl
 | a :: l, E, j + 1, x, h => by
  rw [List.take_succ_cons, List.take_succ_cons, lookNames, lookNames, lookNames_take l _ j x (by simpa using h)]
  cases (declF E true a.1 a.2 0 0).2 <;> rfl
theorem lookNames_inside : ∀ (l : List (ByteArray × Nat)) (E : Env), (lookNames E l).1.inside = E.inside
 | [], E => rfl
 | a :: l, E => by rw [lookNames]; exact (lookNames_inside l _).trans (declF_inside _ _ _ _ _ _)
theorem lookNames_glob : ∀ (l : List (ByteArray × Nat)) (E : Env), (lookNames E l).1.glob = E.glob
 | [], E => rfl
 | a :: l, E => by
  rw [lookNames]
  refine (lookNames_glob l _).trans ?_
  unfold declF; split
  ·rfl
  ·rfl
end
section
variable {lb gm ng nl : Nat} {lm : Option Nat} {w w' : World} {c : Nat × Nat} {L : PEnv} {E : Env} {Q : Nat -> Prop}
theorem PL.setEnv (h : PL lb gm ng nl lm w c L) (lm2 : Option Nat) (nl2 : Nat) (l2 : ByteArray -> Nat × Nat) (res : ByteArray) (h1 : ∀ b, lm2 = some b -> MapIs w b nl2 l2 /\ b ≠ lb /\ b ≠ gm) (h2 : lm2 = none -> ∀ n, l2 n = (0, 0)) :
  PL lb gm ng nl2 lm2 ((w.setCell ⟨lb, 3, none⟩ (.map lm2)).setCell ⟨lb, 4, none⟩ (.string res)) c ⟨L.g, l2, res⟩ := by
 have bl : ∀ b, b ≠ lb -> ((w.setCell ⟨lb, 3, none⟩ (.map lm2)).setCell ⟨lb, 4, none⟩ (.string res)).heap[b]? = w.heap[b]? := fun b hb => by rw [Below.heap_setCell _ _ _ _ hb, Below.heap_setCell _ _ _ _ hb]
 refine ⟨?_, ?_, ?_, ?_, ?_, ?_, h.gmap.block (bl _ h.gne), fun b hb => (h1 b hb).1.block (bl _ (h1 b hb).2.1), h2, h.gne, fun b hb => (h1 b hb).2⟩
 ·rw [World.cell?_setCell_other _ _ _ _ (by simp), World.cell?_setCell_other _ _ _ _ (by simp)]; exact h.code
 ·rw [World.cell?_setCell_other _ _ _ _ (by simp), World.cell?_setCell_other _ _ _ _ (by simp)]; exact h.at_
 ·rw [World.cell?_setCell_other _ _ _ _ (by simp), World.cell?_setCell_other _ _ _ _ (by simp)]; exact h.gl
 ·rw [World.cell?_setCell_other _ _ _ _ (by simp)]; exact World.cell?_setCell_same _ _ _ h.lo
 ·exact World.cell?_setCell_same _ _ _ (by rw [World.cell?_setCell_other _ _ _ _ (by simp)]; exact h.rs)
 ·intro o; rw [World.frozen?_setCell, World.frozen?_setCell]; exact h.frz o
theorem PL.enter (h : PL lb gm ng nl lm w c L) (res : ByteArray) :
  PL lb gm ng 0 (some w.heap.size) (((w.alloc (.map #[] 0)).setCell ⟨lb, 3, none⟩ (.map (some w.heap.size))).setCell ⟨lb, 4, none⟩ (.string res)) c ⟨L.g, fun _ => (0, 0), res⟩ := by
 have hl := h.lt
 have hgl := h.gmap.lt
 refine (h.below ((Below.refl _ _).alloc (Nat.le_refl _) (.map #[] 0))).setEnv (some w.heap.size) 0 _ res (fun b hb => ?_) (fun hb => by cases hb)
 injection hb with hb; subst hb
 exact ⟨mapIs_made w, by omega, by omega⟩
theorem PL.leave (h : PL lb gm ng nl lm w c L) : PL lb gm ng 0 none ((w.setCell ⟨lb, 3, none⟩ (.map none)).setCell ⟨lb, 4, none⟩ (.string ⟨#[]⟩)) c ⟨L.g, fun _ => (0, 0), ⟨#[]⟩⟩ :=
 h.setEnv none 0 _ _ (fun b hb => by cases hb) (fun _ _ => rfl)
theorem rep_enter {L2 : PEnv} {E2 : Env} {res : ByteArray} (h : Rep (noRes L2) E2) (hres : L2.res = res) {l : List Sy} {y : Sy} (hg : E2.glob = l ++ [y]) (hy : res = if y.kind = 3 then y.name else ⟨#[]⟩) : Rep L2 E2.enter := by
 refine ⟨h.g, h.l, ?_, h.vars⟩
 rw [hres, hy]
 unfold resOf
 have e : E2.glob.getD (E2.glob.length - 1) default = y := by
  rw [hg, List.getD_eq_getElem?_getD, List.getElem?_append_right (by simp)]; simp
 show _ = if (E2.glob.getD (E2.glob.length - 1) default).kind = 3 then (E2.glob.getD (E2.glob.length - 1) default).name else ⟨#[]⟩
 rw [e]
theorem rep_leave {L2 : PEnv} {E2 : Env} (h : ∀ n, L2.g n = symIn E2.glob n) : Rep ⟨L2.g, fun _ => (0, 0), ⟨#[]⟩⟩ E2.leave := by
 refine ⟨h, fun n => ?_, rfl, fun y hy => ?_⟩
 ·rfl
 ·have : y ∈ ([] : List Sy) := hy
  cases this
theorem rep_start {L2 : PEnv} {E2 : Env} {res : ByteArray} (h : Rep (noRes L2) E2) (hh : E2.here = []) : Rep (noRes ⟨L2.g, fun _ => (0, 0), res⟩) E2 := by
 refine ⟨h.g, fun n => ?_, h.res, h.vars⟩
 rw [hh]; rfl
theorem namesC_at : ∀ (ns : List (ByteArray × Nat)) (j : Nat) (x : ByteArray × Nat), ns[j]? = some x -> (namesC ns)[j * 2]? = some (.string x.1) /\ (namesC ns)[j * 2 + 1]? = some (.int .i64 x.2)
 | [], j, x, h => by simp at h
 | a :: l, 0, x, h => by simp at h; subst h; exact ⟨rfl, rfl⟩
 | a :: l, j + 1, x, h => by
  have ih := namesC_at l j x (by simpa using h)
  have e : namesC (a :: l) = .string a.1 :: .int .i64 a.2 :: namesC l := rfl
  rw [e, show (j + 1) * 2 = j * 2 + 1 + 1 by omega, List.getElem?_cons_succ, List.getElem?_cons_succ, List.getElem?_cons_succ, List.getElem?_cons_succ]
  exact ih
theorem SliceN.at {Q : Nat -> Prop} {w : World} {v : Value} {ns : List (ByteArray × Nat)} (h : SliceN Q w v ns) {j : Nat} (hj : j < ns.length) : ∃ b cap, v = .slice (some ⟨b, 0, none⟩) ns.length cap /\ Q b /\ b < w.heap.size /\ w.cell? ⟨b, j * 2, none⟩ = some (.string ns[j].1) /\ w.cell? ⟨b, j * 2 + 1, none⟩ = some (.int .i64 ns[j].2) := by
 rcases h with ⟨_, rfl⟩ | ⟨b, cap, hv, hn, hl, hc⟩
 ·simp at hj
 ·have := namesC_at ns j _ (List.getElem?_eq_getElem hj)
  exact ⟨b, cap, hv, hn, hl, hc _ _ this.1, hc _ _ this.2⟩
theorem SliceN.len {Q : Nat -> Prop} {w : World} {v : Value} {ns : List (ByteArray × Nat)} (h : SliceN Q w v ns) : ∃ a cap, v = .slice a ns.length cap := by
 rcases h with ⟨rfl, rfl⟩ | ⟨b, cap, hv, _⟩
 ·exact ⟨none, 0, rfl⟩
 ·exact ⟨_, cap, hv⟩
theorem names_step {E0 : Env} {ns : List (ByteArray × Nat)} {j mb : Nat} {c0 : Nat × Nat} {L' : PEnv} (hP : PL lb gm ng nl (some mb) w (tellF (lookNames E0 (ns.take j)).2 c0) L')
  (hr : (tellF (lookNames E0 (ns.take j)).2 c0).1 = 0 -> Rep (noRes L') (lookNames E0 (ns.take j)).1) (hnl : nl < maxLen) {x : ByteArray × Nat} (hx : ns[j]? = some x) (hn : x.1.size <= maxLen) {W : World} (hW : Below w.heap.size w W) :
  Calls Tryz.prog 147 #[.pointer (some ⟨lb, 0, none⟩), .map (some mb), .agg #[.string x.1, .int .i64 x.2], symV (1, 0)] W fun e w' => e = .returned (.tuple #[]) /\ ∃ L6, PL lb gm ng (nl + 1) (some mb) w' (tellF (lookNames E0 (ns.take (j + 1))).2 c0) L6 /\
   ((tellF (lookNames E0 (ns.take (j + 1))).2 c0).1 = 0 -> Rep (noRes L6) (lookNames E0 (ns.take (j + 1))).1) /\ L6.res = L'.res /\ Fr (fun b => b = lb ∨ b = mb) W w' := by
 refine (decl_here (hP.below hW) hr hnl hn x.2).mono ?_
 rintro e w' ⟨rfl, L6, h1, h2, h3, h4, _⟩
 rw [lookNames_take ns E0 j x hx]
 rw [tellF_or _ _ (nz_lookNames _ _)] at h1 h2
 exact ⟨rfl, L6, h1, h2, h3, h4⟩
theorem lookRo_tell (E : Env) (kind : Nat) (r : Ro) (c : Nat × Nat) : tellF (lookRo E kind r).2 c =
  tellF (lookSts (lookNames (lookNames (declF E false r.name.1 r.name.2 kind r.params.length).1 r.params).1 r.locals).1.enter r.body)
   (tellF (lookNames (lookNames (declF E false r.name.1 r.name.2 kind r.params.length).1 r.params).1 r.locals).2
     (tellF (lookNames (declF E false r.name.1 r.name.2 kind r.params.length).1 r.params).2 (tellF (manyF r.params.length r.name.2) (tellF (declF E false r.name.1 r.name.2 kind r.params.length).2 c)))) := by
 unfold lookRo lookHead
 have n1 := nz_declF E false r.name.1 r.name.2 kind r.params.length
 have n2 := nz_manyF r.params.length r.name.2
 have n3 := nz_lookNames r.params (declF E false r.name.1 r.name.2 kind r.params.length).1
 have n4 := nz_lookNames r.locals (lookNames (declF E false r.name.1 r.name.2 kind r.params.length).1 r.params).1
 rw [tellF_or _ _ n1, tellF_or _ _ (n1.or n2), tellF_or _ _ ((n1.or n2).or n3), tellF_or _ _ (((n1.or n2).or n3).or n4)]
theorem declF_here (E : Env) (n : ByteArray) (p kind args : Nat) : (declF E false n p kind args).1.here = E.here := by
 unfold declF; split <;> rfl
theorem declF_glob {E : Env} {n : ByteArray} {p kind args : Nat} (h : (declF E false n p kind args).2 = none) : (declF E false n p kind args).1.glob = E.glob ++ [⟨n, kind, args⟩] := by
 rw [declF_none h]; rfl
structure Top (lb gm ng : Nat) (w : World) (c : Nat × Nat) (L : PEnv) (E : Env) : Prop where
 pl : PL lb gm ng 0 none w c L
 rep : c.1 = 0 -> Rep L E
 res : L.res = ⟨#[]⟩
 l : L.l = fun _ => (0, 0)
 ins : E.inside = none
 here : E.here = []
def GPost (lb gm ng : Nat) (r : Env × Option (Nat × Nat)) (c : Nat × Nat) (w : World) (e : Ending) (w' : World) : Prop :=
 e = .returned (.tuple #[]) /\ (∃ L', Top lb gm (ng + 1) w' (tellF r.2 c) L' r.1) /\ Fr (fun b => b = lb ∨ b = gm) w w'
theorem noRes_id {L : PEnv} (h : L.res = ⟨#[]⟩) : noRes L = L := by cases L; simp only [noRes] at *; rw [h]
end
end Go.Proofs.YtklobognaldjpaaGreat
