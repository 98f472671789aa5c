/- Jobs: what lies in memory of one; a turn of it. Rooms: what lies in memory of one. Rooms: a round. -/
import Derived.Test.YtklobognaldjpaaGreatCRp2
import Derived.Test.YtklobognaldjpaaGreatCHp5
set_option maxHeartbeats 2000000
set_option maxRecDepth 1000000
namespace Go.Proofs.YtklobognaldjpaaGreat
open Go.RowKit
structure JM where
 jb : Nat
 xb : Nat
 wb : Nat
 wc : Nat
 W : List Nat
 Q : Nat -> Prop
 fuel : Nat
 limit : Nat
 waits : Bool
 R : MR
 vi : Value
 m : MS
 num : Nat
 done : Bool
 ov : Value
def JM.foot (J : JM) (b : Nat) : Prop := b = J.jb ∨ b = J.xb ∨ J.R.has b ∨ J.Q b
def JM.cells (J : JM) : List Value := [.int .i64 (J.num : Nat), .int .i64 ((J.m.over.getD 0 : Nat) : Int), J.ov, .int .i64 (J.m.used : Nat), .pointer (if J.done then none else some ⟨J.xb, 0, none⟩)]
structure JobAt (w : World) (J : JM) : Prop where
 cel : CellsAt J.jb w J.cells
 frz : ∀ o, w.frozen? ⟨J.jb, o, none⟩ = false
 mc : MC J.xb J.wb J.wc J.W J.Q w J.m J.fuel J.limit J.waits J.R J.vi
 nx : J.jb ≠ J.xb
 nr : ¬ J.R.has J.jb
 nq : ¬ J.Q J.jb
 ouv : J.ov = J.R.ou ∨ (J.ov = .slice none 0 0 /\ J.m.out = [])
section
variable {w w' : World} {J : JM}
theorem JobAt.lt (h : JobAt w J) : J.jb < w.heap.size := lt_of_cell (h.cel 0 _ rfl)
theorem JobAt.footlt (h : JobAt w J) {b : Nat} (hb : J.foot b) : b < w.heap.size := by
 rcases hb with rfl | rfl | hb | hb
 ·exact h.lt
 ·exact h.mc.rows.xlt
 ·exact h.mc.rows.lt b hb
 ·exact (h.mc.rows.far b hb).1
theorem JobAt.same (h : JobAt w J) (hs : w.heap.size <= w'.heap.size) (hk : ∀ b, J.foot b -> w'.heap[b]? = w.heap[b]?) : JobAt w' J := by
 have hb := hk J.jb (.inl rfl)
 have hx := hk J.xb (.inr (.inl rfl))
 refine ⟨h.cel.block hb, fun o => by rw [World.frozen?_of_block (w := w) hb]; exact h.frz o, ⟨h.mc.cel.block hx, fun o => by rw [World.frozen?_of_block (w := w) hx]; exact h.mc.frz o, h.mc.rows.same hs fun b hb2 => hk b ?_⟩, h.nx, h.nr, h.nq, h.ouv⟩
 rcases hb2 with h1 | h1
 ·exact .inr (.inr (.inr h1))
 ·exact .inr (.inr (.inl h1))
theorem JobAt.below (h : JobAt w J) (hb : Below w.heap.size w w') : JobAt w' J := h.same hb.size fun b hb2 => hb.block b (h.footlt hb2)
def JM.after (J : JM) (m' : MS) (limit : Nat) (b : Bool) (R' : MR) (vi' : Value) : JM := { J with m := m', limit := limit, waits := b, R := R', vi := vi', done := m'.over.isSome, ov := R'.ou }
theorem MM.foot {R R' : MR} {xb : Nat} (hk : MM xb R R' w w') {S : Nat -> Prop} (h1 : S xb) (h2 : ∀ b, R.has b -> S b) : Fr S w w' := hk.1.weak fun k _ e => by
 rcases e with rfl | e
 ·exact h1
 ·exact h2 k e
theorem jend_any {jb : Nat} {w : World} {v : Option Addr} (hc : w.cell? ⟨jb, 4, none⟩ = some (.pointer v)) (hf : w.frozen? ⟨jb, 4, none⟩ = false) : Calls Tryz.prog 84 #[.pointer (some ⟨jb, 0, none⟩)] w fun e w' => e = .returned (.tuple #[]) /\ w' = w.setCell ⟨jb, 4, none⟩ (.pointer none) := by
 go_enter Tryz.func84, Tryz.ntmps84
 go_wp2
 go_end0
 exact ⟨rfl, rfl⟩
theorem jgoOn_any (h : JobAt w J) (hd : J.done = false) (hW : J.W.length <= 1000000) (hK : LeK J.W) {units n : Nat} {b : Bool} {m' : MS} (hT : Trn J.W J.fuel (J.m.used + units) n J.m m' b) (hub : J.m.used + units <= 1000000) :
  Calls Tryz.prog 78 #[.pointer (some ⟨J.jb, 0, none⟩), .int .i64 (units : Nat)] w fun e w' => e = .returned (.tuple #[]) /\ ∃ R' vi', JobAt w' (J.after m' (J.m.used + units) b R' vi') /\ Fr (fun b => b = J.jb ∨ b = J.xb ∨ J.R.has b) w w' /\ ∀ k, R'.has k -> J.R.has k ∨ w.heap.size <= k := by
 have c4 : w.cell? ⟨J.jb, 4, none⟩ = some (.pointer (some ⟨J.xb, 0, none⟩)) := by have := h.cel 4 _ rfl; rw [hd] at this; exact this
 have hG := goOn_any h.mc hW hK hT hub
 unfold GnPo at hG
 have hjl := h.lt
 have HK : Hid (∀ (w1 : World) (R' : MR) (vi' : Value), MC J.xb J.wb J.wc J.W J.Q w1 m' J.fuel (J.m.used + units) b R' vi' -> MM J.xb J.R R' w w1 ->
   (∀ o v, J.cells[o]? = some v -> w1.cell? ⟨J.jb, o, none⟩ = some v) /\ (∀ o, w1.frozen? ⟨J.jb, o, none⟩ = false) /\ J.jb < w1.heap.size /\
   ∀ (A : Obj) (oa : Option Addr) (oc : Nat) (w4 : World), R'.ou = .slice oa m'.out.length oc ->
    (w4 = (((w1.setCell ⟨J.jb, 1, none⟩ (.int .i64 ((m'.over.getD 0 : Nat) : Int))).setCell ⟨J.jb, 2, none⟩ (.slice oa m'.out.length oc)).setCell ⟨J.jb, 3, none⟩ (.int .i64 (m'.used : Nat))).alloc A /\ m'.over.isSome = false ∨ w4 = ((((w1.setCell ⟨J.jb, 1, none⟩ (.int .i64 ((m'.over.getD 0 : Nat) : Int))).setCell ⟨J.jb, 2, none⟩ (.slice oa m'.out.length oc)).setCell ⟨J.jb, 3, none⟩ (.int .i64 (m'.used : Nat))).setCell ⟨J.jb, 4, none⟩ (.pointer none)).alloc A /\ m'.over.isSome = true) ->
    JobAt w4 (J.after m' (J.m.used + units) b R' vi') /\ Fr (fun b => b = J.jb ∨ b = J.xb ∨ J.R.has b) w w4 /\ ∀ k, R'.has k -> J.R.has k ∨ w.heap.size <= k) := by
  intro w1 R' vi' hM hk
  obtain ⟨k1, k2, k3⟩ := hk.keeps hjl h.nx h.nr
  have hcell : ∀ o v, J.cells[o]? = some v -> w1.cell? ⟨J.jb, o, none⟩ = some v := fun o v ho => by rw [World.cell?_of_block (w := w) k1]; exact h.cel o v ho
  refine ⟨hcell, fun o => by rw [World.frozen?_of_block (w := w) k1]; exact h.frz o, k3, fun A oa oc w4 hou hw4 => ?_⟩
  have hM3 := ((hM.foreign h.nx k2 h.nq 1 (.int .i64 ((m'.over.getD 0 : Nat) : Int))).foreign h.nx k2 h.nq 2 (.slice oa m'.out.length oc)).foreign h.nx k2 h.nq 3 (.int .i64 (m'.used : Nat))
  have hC0 : CellsAt J.jb w1 J.cells := hcell
  have hC3 := ((hC0.set (o := 1) (by simp [JM.cells]) (.int .i64 ((m'.over.getD 0 : Nat) : Int))).set (o := 2) (by simp [JM.cells]) (.slice oa m'.out.length oc)).set (o := 3) (by simp [JM.cells]) (.int .i64 (m'.used : Nat))
  have hF3 : ∀ o, (((w1.setCell ⟨J.jb, 1, none⟩ (.int .i64 ((m'.over.getD 0 : Nat) : Int))).setCell ⟨J.jb, 2, none⟩ (.slice oa m'.out.length oc)).setCell ⟨J.jb, 3, none⟩ (.int .i64 (m'.used : Nat))).frozen? ⟨J.jb, o, none⟩ = false := fun o => by
   rw [World.frozen?_setCell, World.frozen?_setCell, World.frozen?_setCell, World.frozen?_of_block (w := w) k1]; exact h.frz o
  have hF0 : Fr (fun b => b = J.jb ∨ b = J.xb ∨ J.R.has b) w w1 := hk.foot (S := fun b => b = J.jb ∨ b = J.xb ∨ J.R.has b) (.inr (.inl rfl)) (fun b hb => .inr (.inr hb))
  have hset : ∀ (u : World) (o : Nat) (v : Value), Fr (fun b => b = J.jb ∨ b = J.xb ∨ J.R.has b) u (u.setCell ⟨J.jb, o, none⟩ v) := fun u o v => ⟨rfl, rfl, rfl, by simp [World.setCell], fun b _ hn => Below.heap_setCell _ _ _ _ (fun e => hn (.inl e))⟩
  have hFr3 := ((hF0.trans (hset _ 1 (.int .i64 ((m'.over.getD 0 : Nat) : Int)))).trans (hset _ 2 (.slice oa m'.out.length oc))).trans (hset _ 3 (.int .i64 (m'.used : Nat)))
  have hl3 : J.jb < (((w1.setCell ⟨J.jb, 1, none⟩ (.int .i64 ((m'.over.getD 0 : Nat) : Int))).setCell ⟨J.jb, 2, none⟩ (.slice oa m'.out.length oc)).setCell ⟨J.jb, 3, none⟩ (.int .i64 (m'.used : Nat))).heap.size := by simp [World.setCell]; exact k3
  generalize ((w1.setCell ⟨J.jb, 1, none⟩ (.int .i64 ((m'.over.getD 0 : Nat) : Int))).setCell ⟨J.jb, 2, none⟩ (.slice oa m'.out.length oc)).setCell ⟨J.jb, 3, none⟩ (.int .i64 (m'.used : Nat)) = w3 at *
  have b1 : Below w3.heap.size w3 (w3.alloc A) := (Below.refl _ _).alloc (Nat.le_refl _) _
  have hMA := hM3.below b1
  have hCA := hC3.block (b1.block J.jb hl3)
  have hFA : ∀ o, (w3.alloc A).frozen? ⟨J.jb, o, none⟩ = false := fun o => by rw [b1.frozen (p := ⟨J.jb, o, none⟩) hl3]; exact hF3 o
  have hFrA := hFr3.trans (Fr.of_below b1)
  rcases hw4 with ⟨rfl, ho⟩ | ⟨rfl, ho⟩
  ·refine ⟨⟨fun o v hv => hCA o v ?_, hFA, hMA, h.nx, k2, h.nq, .inl rfl⟩, hFrA, hk.2⟩
   rw [<- hv]
   simp only [JM.cells, JM.after, hd, ho, hou, List.set_cons_succ, List.set_cons_zero]
  ·have b2 : Below (w3.setCell ⟨J.jb, 4, none⟩ (.pointer none)).heap.size (w3.setCell ⟨J.jb, 4, none⟩ (.pointer none)) ((w3.setCell ⟨J.jb, 4, none⟩ (.pointer none)).alloc A) := (Below.refl _ _).alloc (Nat.le_refl _) _
   have hl4 : J.jb < (w3.setCell ⟨J.jb, 4, none⟩ (.pointer none)).heap.size := by simp [World.setCell]; exact hl3
   refine ⟨⟨fun o v hv => ((hC3.set (o := 4) (by simp [JM.cells]) (.pointer none)).block (b2.block J.jb hl4)) o v ?_, fun o => (b2.frozen (p := ⟨J.jb, o, none⟩) hl4).trans (by rw [World.frozen?_setCell]; exact hF3 o), (hM3.foreign h.nx k2 h.nq 4 (.pointer none)).below b2, h.nx, k2, h.nq, .inl rfl⟩, (hFr3.trans (hset _ 4 (.pointer none))).trans (Fr.of_below b2), hk.2⟩
   rw [<- hv]
   simp only [JM.cells, JM.after, ho, hou, List.set_cons_succ, List.set_cons_zero, if_true]
 have hcs : J.cells = [.int .i64 (J.num : Nat), .int .i64 ((J.m.over.getD 0 : Nat) : Int), J.ov, .int .i64 (J.m.used : Nat), .pointer (some ⟨J.xb, 0, none⟩)] := by unfold JM.cells; rw [hd]; rfl
 rw [hcs] at HK
 clear h hT hcs
 cases hov : m'.over.isSome with
 | false =>
  rw [hov] at hG
  go_enter Tryz.func78, Tryz.ntmps78
  go_wp2_with (go_at_call 49; refine hG.mono ?_; rintro e w1 ⟨R', vi', oa, oc, hou, rfl, hM, hk⟩; obtain ⟨hc, hf, hl1, HF⟩ := HK.out w1 R' vi' hM hk; have d1 := hc 1 _ rfl; have d2 := hc 2 _ rfl; have d3 := hc 3 _ rfl; have f1 := hf 1; have f2 := hf 2; have f3 := hf 3; have HFi : Hid _ := HF; clear HF hc hf)
  go_end0
  exact ⟨rfl, R', vi', HFi.out _ oa oc _ hou (.inl ⟨rfl, hov⟩)⟩
 | true =>
  rw [hov] at hG
  go_enter Tryz.func78, Tryz.ntmps78
  go_wp2_with (first
   | (go_at_call 49; refine hG.mono ?_; rintro e w1 ⟨R', vi', oa, oc, hou, rfl, hM, hk⟩; obtain ⟨hc, hf, hl1, HF⟩ := HK.out w1 R' vi' hM hk; have d1 := hc 1 _ rfl; have d2 := hc 2 _ rfl; have d3 := hc 3 _ rfl; have d4 := hc 4 _ rfl; have f1 := hf 1; have f2 := hf 2; have f3 := hf 3; have f4 := hf 4; have HFi : Hid _ := HF; clear HF hc hf)
   | (go_at_call 84; refine (jend_any (by rw [((Below.refl _ _).alloc (Nat.le_refl _) _).cell (p := ⟨J.jb, 4, none⟩) (by simp [World.setCell]; exact hl1), World.cell?_setCell_other _ _ _ _ (by simp), World.cell?_setCell_other _ _ _ _ (by simp), World.cell?_setCell_other _ _ _ _ (by simp)]; exact d4) (by rw [((Below.refl _ _).alloc (Nat.le_refl _) _).frozen (p := ⟨J.jb, 4, none⟩) (by simp [World.setCell]; exact hl1), World.frozen?_setCell, World.frozen?_setCell, World.frozen?_setCell]; exact f4)).mono ?_; rintro e w5 ⟨rfl, rfl⟩))
  go_end0
  exact ⟨rfl, R', vi', HFi.out _ oa oc _ hou (.inr ⟨rfl, hov⟩)⟩
theorem jover_any {jb : Nat} {w : World} {v : Option Addr} (hc : w.cell? ⟨jb, 4, none⟩ = some (.pointer v)) : Calls Tryz.prog 62 #[.pointer (some ⟨jb, 0, none⟩)] w fun e w' => e = .returned (.bool v.isNone) /\ w' = w := by
 cases v with
 | none =>
  go_enter Tryz.func62, Tryz.ntmps62
  go_wp2
  go_ret
  exact ⟨rfl, rfl⟩
 | some a =>
  go_enter Tryz.func62, Tryz.ntmps62
  go_wp2
  go_ret
  exact ⟨rfl, rfl⟩
theorem jnumber_any {jb : Nat} {w : World} {n : Int} (hc : w.cell? ⟨jb, 0, none⟩ = some (.int .i64 n)) : Calls Tryz.prog 60 #[.pointer (some ⟨jb, 0, none⟩)] w fun e w' => e = .returned (.int .i64 n) /\ w' = w := by
 go_enter Tryz.func60, Tryz.ntmps60
 go_wp2
 go_ret
 exact ⟨rfl, rfl⟩
theorem newJob_any (n : Int) (xb : Nat) (w : World) : Calls Tryz.prog 74 #[.int .i64 n, .pointer (some ⟨xb, 0, none⟩)] w fun e w' => e = .returned (.pointer (some ⟨w.heap.size, 0, none⟩)) /\ w' = w.alloc (.cells #[.int .i64 n, .int .i64 0, .slice none 0 0, .int .i64 0, .pointer (some ⟨xb, 0, none⟩)] 151) := by
 go_enter Tryz.func74, Tryz.ntmps74
 go_wp2
 go_ret
 exact ⟨rfl, rfl⟩
end
def kyOf (Js : List JM) (b : Nat) : Int × Int := match Js.find? fun J => J.jb == b with
 | some J => (((J.m.used : Nat) : Int), ((J.num : Nat) : Int))
 | none => (0, 0)
def Dis (Js : List JM) : Prop := ∀ (i j : Nat) (J K : JM), Js[i]? = some J -> Js[j]? = some K -> i ≠ j -> ∀ b, J.foot b -> ¬ K.foot b
structure RoomAt (w : World) (rb sl : Nat) (vj v : Value) (Js : List JM) (hp : List Nat) : Prop where
 c0 : w.cell? ⟨rb, 0, none⟩ = some (.int .i64 (sl : Nat))
 c1 : w.cell? ⟨rb, 1, none⟩ = some vj
 c2 : w.cell? ⟨rb, 2, none⟩ = some v
 fz : ∀ o, w.frozen? ⟨rb, o, none⟩ = false
 rj : w.ownsRow 0 103 1 vj Js.length (Js.map fun J => ptrV J.jb)
 rh : w.ownsRow 0 103 1 v hp.length (hp.map ptrV)
 a1 : vj.ownBlock ≠ some rb
 a2 : v.ownBlock ≠ some rb
 a3 : ApartV vj v
 job : ∀ J ∈ Js, JobAt w J
 off : ∀ J ∈ Js, ∀ b, J.foot b -> b ≠ rb /\ vj.ownBlock ≠ some b /\ v.ownBlock ≠ some b
 dis : Dis Js
 hin : ∀ b ∈ hp, ∃ J ∈ Js, J.jb = b
def RFoot (rb : Nat) (vj v : Value) (Js : List JM) (b : Nat) : Prop := b = rb ∨ vj.ownBlock = some b ∨ v.ownBlock = some b ∨ ∃ J ∈ Js, J.foot b
structure RM (rb : Nat) (vj v : Value) (Js : List JM) (vj' v' : Value) (Js' : List JM) (w w' : World) : Prop where
 fr : Fr (RFoot rb vj v Js) w w'
 nw : ∀ b, RFoot rb vj' v' Js' b -> RFoot rb vj v Js b ∨ w.heap.size <= b
section
variable {w w' w1 : World} {rb sl : Nat} {vj v vj' v' vj2 v2 : Value} {Js Js' Js2 : List JM} {hp hp' : List Nat}
theorem RM.refl (rb : Nat) (vj v : Value) (Js : List JM) (w : World) : RM rb vj v Js vj v Js w w := ⟨Fr.refl _ _, fun _ h => .inl h⟩
theorem RM.trans (h : RM rb vj v Js vj' v' Js' w w1) (k : RM rb vj' v' Js' vj2 v2 Js2 w1 w') : RM rb vj v Js vj2 v2 Js2 w w' := by
 refine ⟨⟨k.fr.os.trans h.fr.os, k.fr.tape.trans h.fr.tape, k.fr.output.trans h.fr.output, Nat.le_trans h.fr.size k.fr.size, fun i hi hn => ?_⟩, fun i hi => ?_⟩
 ·refine (k.fr.block i (Nat.lt_of_lt_of_le hi h.fr.size) fun e => ?_).trans (h.fr.block i hi hn)
  rcases h.nw i e with h2 | h2
  ·exact hn h2
  ·omega
 ·rcases k.nw i hi with k2 | k2
  ·exact h.nw i k2
  ·exact .inr (Nat.le_trans h.fr.size k2)
theorem RoomAt.lt (h : RoomAt w rb sl vj v Js hp) : rb < w.heap.size := lt_of_cell h.c0
theorem RoomAt.footlt (h : RoomAt w rb sl vj v Js hp) {b : Nat} (hb : RFoot rb vj v Js b) : b < w.heap.size := by
 rcases hb with rfl | hb | hb | ⟨J, hJ, hb⟩
 ·exact h.lt
 ·exact (h.rj.lt b hb).2
 ·exact (h.rh.lt b hb).2
 ·exact (h.job J hJ).footlt hb
theorem RoomAt.same (h : RoomAt w rb sl vj v Js hp) (hs : w.heap.size <= w'.heap.size) (hk : ∀ b, RFoot rb vj v Js b -> w'.heap[b]? = w.heap[b]?) : RoomAt w' rb sl vj v Js hp := by
 have hb := hk rb (.inl rfl)
 exact ⟨by rw [World.cell?_of_block (w := w) hb]; exact h.c0, by rw [World.cell?_of_block (w := w) hb]; exact h.c1, by rw [World.cell?_of_block (w := w) hb]; exact h.c2, fun o => by rw [World.frozen?_of_block (w := w) hb]; exact h.fz o,
  row_kept h.rj fun k e => hk k (.inr (.inl e)), row_kept h.rh fun k e => hk k (.inr (.inr (.inl e))), h.a1, h.a2, h.a3, fun J hJ => (h.job J hJ).same hs fun b hb2 => hk b (.inr (.inr (.inr ⟨J, hJ, hb2⟩))), h.off, h.dis, h.hin⟩
theorem RoomAt.below (h : RoomAt w rb sl vj v Js hp) (hb : Below w.heap.size w w') : RoomAt w' rb sl vj v Js hp := h.same hb.size fun b hb2 => hb.block b (h.footlt hb2)
theorem jb_one (hd : Dis Js) {J K : JM} (hJ : J ∈ Js) (hK : K ∈ Js) (e : J.jb = K.jb) : J = K := by
 obtain ⟨i, hi⟩ := List.getElem?_of_mem hJ
 obtain ⟨j, hj⟩ := List.getElem?_of_mem hK
 by_cases hij : i = j
 ·subst hij; rw [hi] at hj; exact Option.some.inj hj
 ·exact absurd (.inl e) (hd i j J K hi hj hij J.jb (.inl rfl))
theorem ky_of (hd : Dis Js) {J : JM} (hJ : J ∈ Js) : kyOf Js J.jb = (((J.m.used : Nat) : Int), ((J.num : Nat) : Int)) := by
 unfold kyOf
 cases hf : Js.find? fun K => K.jb == J.jb with
 | none => have := List.find?_eq_none.1 hf J hJ; simp at this
 | some K =>
  have h1 := List.mem_of_find?_eq_some hf
  have h2 := List.find?_some hf
  have : K = J := jb_one hd h1 hJ (by simpa using h2)
  rw [this]
theorem RoomAt.key (h : RoomAt w rb sl vj v Js hp) {J : JM} (hJ : J ∈ Js) : KeyAt (kyOf Js) w J.jb := by
 unfold KeyAt
 rw [ky_of h.dis hJ]
 exact ⟨(h.job J hJ).cel 0 _ rfl, (h.job J hJ).cel 3 _ rfl⟩
theorem RoomAt.hq (h : RoomAt w rb sl vj v Js hp) : HQ (kyOf Js) rb 2 v w hp :=
 ⟨h.c2, h.fz 2, h.rh, h.a2, fun b hb => by
  obtain ⟨J, hJ, rfl⟩ := h.hin b hb
  have := h.off J hJ J.jb (.inl rfl)
  exact ⟨h.key hJ, this.2.2, this.1⟩⟩
theorem RoomAt.heap (h : RoomAt w rb sl vj v Js hp) (hq : HQ (kyOf Js) rb 2 v' w' hp') (hF : Fr (fun b => b = rb ∨ v.ownBlock = some b) w w') (hO : Oth rb 2 w w') (hn : ∀ k, v'.ownBlock = some k -> v.ownBlock = some k ∨ w.heap.size <= k) (hm : ∀ b ∈ hp', ∃ J ∈ Js, J.jb = b) :
  RoomAt w' rb sl vj v' Js hp' /\ RM rb vj v Js vj v' Js w w' := by
 have hfoot : ∀ J ∈ Js, ∀ b, J.foot b -> w'.heap[b]? = w.heap[b]? := fun J hJ b hb => hF.block b ((h.job J hJ).footlt hb) (by
  have := h.off J hJ b hb
  rintro (e | e)
  ·exact this.1 e
  ·exact this.2.2 e)
 refine ⟨⟨by rw [(hO 0).1 (by omega)]; exact h.c0, by rw [(hO 1).1 (by omega)]; exact h.c1, hq.cel, fun o => by rw [(hO o).2]; exact h.fz o, row_kept h.rj fun k e => hF.block k (h.rj.lt k e).2 (by
   rintro (e2 | e2)
   ·exact h.a1 (by rw [e, e2])
   ·exact h.a3 k e e2), hq.own, h.a1, hq.ne, fun k e e2 => ?_, fun J hJ => (h.job J hJ).same hF.size (hfoot J hJ), fun J hJ b hb => ?_, h.dis, hm⟩, ⟨hF.weak fun k _ e => ?_, fun b hb => ?_⟩⟩
 ·rcases hn k e2 with h3 | h3
  ·exact h.a3 k e h3
  ·have := (h.rj.lt k e).2; omega
 ·have := h.off J hJ b hb
  refine ⟨this.1, this.2.1, fun e => ?_⟩
  rcases hn b e with h3 | h3
  ·exact this.2.2 h3
  ·have := (h.job J hJ).footlt hb; omega
 ·rcases e with e | e
  ·exact .inl e
  ·exact .inr (.inr (.inl e))
 ·rcases hb with e | e | e | e
  ·exact .inl (.inl e)
  ·exact .inl (.inr (.inl e))
  ·rcases hn b e with h3 | h3
   ·exact .inl (.inr (.inr (.inl h3)))
   ·exact .inr h3
  ·exact .inl (.inr (.inr (.inr e)))
theorem RoomAt.turn (h : RoomAt w rb sl vj v Js hp) {J J' : JM} {i : Nat} (hi : Js[i]? = some J) (hJ : JobAt w' J') (h1 : J'.jb = J.jb) (h2 : ∀ b, J'.foot b -> J.foot b ∨ w.heap.size <= b) (hF : Fr J.foot w w') :
  RoomAt w' rb sl vj v (Js.set i J') hp /\ RM rb vj v Js vj v (Js.set i J') w w' := by
 have hJm : J ∈ Js := List.mem_of_getElem? hi
 have hil : i < Js.length := (List.getElem?_eq_some_iff.1 hi).1
 have hiJ : Js[i] = J := (List.getElem?_eq_some_iff.1 hi).2
 have hoff := h.off J hJm
 have hbl : ∀ b, b < w.heap.size -> ¬ J.foot b -> w'.heap[b]? = w.heap[b]? := fun b h3 h4 => hF.block b h3 h4
 have hrb := hbl rb h.lt (fun e => (hoff rb e).1 rfl)
 have hset : ∀ a, (Js.set i J')[a]? = if i = a then some J' else Js[a]? := fun a => by
  rw [List.getElem?_set]
  by_cases e : i = a
  ·subst e; rw [if_pos rfl, if_pos rfl, if_pos hil]
  ·rw [if_neg e, if_neg e]
 have hmem : ∀ K ∈ Js.set i J', K = J' ∨ ∃ a, a ≠ i /\ Js[a]? = some K := fun K hK => by
  obtain ⟨a, ha⟩ := List.getElem?_of_mem hK
  rw [hset] at ha
  by_cases e : i = a
  ·rw [if_pos e] at ha; exact .inl (Option.some.inj ha).symm
  ·rw [if_neg e] at ha; exact .inr ⟨a, fun e2 => e e2.symm, ha⟩
 have hoth : ∀ a K, a ≠ i -> Js[a]? = some K -> ∀ b, K.foot b -> ¬ J'.foot b := fun a K hai ha b hb hb2 => by
  rcases h2 b hb2 with h3 | h3
  ·exact h.dis a i K J ha hi hai b hb h3
  ·have := (h.job K (List.mem_of_getElem? ha)).footlt hb; omega
 have hmap : (Js.set i J').map (fun J => ptrV J.jb) = Js.map fun J => ptrV J.jb := by
  rw [List.map_set, h1]
  apply List.ext_getElem?
  intro a
  rw [List.getElem?_set]
  by_cases e : i = a
  ·subst e; simp [hil, hiJ]
  ·rw [if_neg e]
 have hvj : ∀ k, vj.ownBlock = some k -> w'.heap[k]? = w.heap[k]? := fun k e => hbl k (h.rj.lt k e).2 fun e2 => (hoff k e2).2.1 e
 have hv : ∀ k, v.ownBlock = some k -> w'.heap[k]? = w.heap[k]? := fun k e => hbl k (h.rh.lt k e).2 fun e2 => (hoff k e2).2.2 e
 refine ⟨⟨by rw [World.cell?_of_block (w := w) hrb]; exact h.c0, by rw [World.cell?_of_block (w := w) hrb]; exact h.c1, by rw [World.cell?_of_block (w := w) hrb]; exact h.c2, fun o => by rw [World.frozen?_of_block (w := w) hrb]; exact h.fz o, ?_, row_kept h.rh hv, h.a1, h.a2, h.a3, fun K hK => ?_, fun K hK b hb => ?_, fun a c A C ha hc hac b hb hb2 => ?_, fun b hb => ?_⟩, ⟨hF.weak fun k _ e => .inr (.inr (.inr ⟨J, hJm, e⟩)), fun b hb => ?_⟩⟩
 ·rw [hmap, List.length_set]; exact row_kept h.rj hvj
 ·rcases hmem K hK with rfl | ⟨a, hai, ha⟩
  ·exact hJ
  ·have hKm := List.mem_of_getElem? ha
   exact (h.job K hKm).same hF.size fun b hb => hbl b ((h.job K hKm).footlt hb) (h.dis a i K J ha hi hai b hb)
 ·rcases hmem K hK with rfl | ⟨a, hai, ha⟩
  ·rcases h2 b hb with h3 | h3
   ·exact hoff b h3
   ·exact ⟨by have := h.lt; omega, fun e => by have := (h.rj.lt b e).2; omega, fun e => by have := (h.rh.lt b e).2; omega⟩
  ·exact h.off K (List.mem_of_getElem? ha) b hb
 ·rw [hset] at ha hc
  by_cases e1 : i = a
  ·rw [if_pos e1] at ha
   cases ha
   rw [if_neg (by omega)] at hc
   exact hoth c C (by omega) hc b hb2 hb
  ·rw [if_neg e1] at ha
   by_cases e2 : i = c
   ·rw [if_pos e2] at hc
    cases hc
    exact hoth a A (by omega) ha b hb hb2
   ·rw [if_neg e2] at hc
    exact h.dis a c A C ha hc hac b hb hb2
 ·obtain ⟨K, hK, rfl⟩ := h.hin b hb
  obtain ⟨a, ha⟩ := List.getElem?_of_mem hK
  by_cases e : i = a
  ·subst e
   rw [hi] at ha
   cases ha
   exact ⟨J', List.mem_of_getElem? (i := i) (by rw [hset, if_pos rfl]), h1⟩
  ·exact ⟨K, List.mem_of_getElem? (i := a) (by rw [hset, if_neg e]; exact ha), rfl⟩
 ·rcases hb with e | e | e | ⟨K, hK, e⟩
  ·exact .inl (.inl e)
  ·exact .inl (.inr (.inl e))
  ·exact .inl (.inr (.inr (.inl e)))
  ·rcases hmem K hK with rfl | ⟨a, hai, ha⟩
   ·rcases h2 b e with h3 | h3
    ·exact .inl (.inr (.inr (.inr ⟨J, hJm, h3⟩)))
    ·exact .inr h3
   ·exact .inl (.inr (.inr (.inr ⟨K, List.mem_of_getElem? ha, e⟩)))
end
section
variable {w w' w1 : World} {rb sl : Nat} {vj v vj' v' : Value} {Js Js' : List JM} {hp hp' : List Nat}
theorem round_none (h : RoomAt w rb sl vj v Js []) (units : Int) : Calls Tryz.prog 59 #[.pointer (some ⟨rb, 2, none⟩), .int .i64 units] w fun e w' => e = .returned (.pointer none) /\ w' = w := by
 obtain ⟨va, vc, hv, _⟩ := owned_row h.rh
 have c2 := h.c2
 rw [hv] at c2
 have c2' : w.cell? ⟨rb, 2, none⟩ = some (.slice va 0 vc) := c2
 clear h hv c2
 go_enter Tryz.func59, Tryz.ntmps59
 go_wp2_with (go_at_call 77; refine (hlen_any _ _ _ _).mono ?_; rintro e w2 ⟨rfl, h9⟩; cases h9)
 go_ret
 exact ⟨rfl, rfl⟩
theorem popL_mem {ky : Nat -> Int × Int} {l : List Nat} (hl : l ≠ []) {b : Nat} (hb : b ∈ popL ky l) : b ∈ l := by
 have hp : 0 < l.length := List.length_pos_iff.2 hl
 unfold popL at hb
 have := List.mem_of_mem_take hb
 exact mem_swap (by omega) (by omega) ((downL_perm ky _ _ _ _ (by rw [swapL_len]; omega)).mem_iff.1 this)
theorem fixL_mem {ky : Nat -> Int × Int} {l : List Nat} {b : Nat} (hb : b ∈ fixL ky l) : b ∈ l := (downL_perm ky _ _ _ _ (Nat.le_refl _)).mem_iff.1 hb
def nextL (Js : List JM) (over : Bool) (hp : List Nat) : List Nat := if over then popL (kyOf Js) hp else fixL (kyOf Js) hp
theorem round_any {b : Nat} {t : List Nat} (h : RoomAt w rb sl vj v Js (b :: t)) (ht : t.length <= 99) {i : Nat} {J : JM} (hi : Js[i]? = some J) (hb : J.jb = b) (hd : J.done = false) (hW : J.W.length <= 1000000) (hK : LeK J.W) {units n : Nat} {wt : Bool} {m' : MS} (hT : Trn J.W J.fuel (J.m.used + units) n J.m m' wt) (hub : J.m.used + units <= 1000000) :
  Calls Tryz.prog 59 #[.pointer (some ⟨rb, 2, none⟩), .int .i64 (units : Nat)] w fun e w' => e = .returned (.pointer (if m'.over.isSome then some ⟨b, 0, none⟩ else none)) /\ ∃ R' vi' v', RoomAt w' rb sl vj v' (Js.set i (J.after m' (J.m.used + units) wt R' vi')) (nextL (Js.set i (J.after m' (J.m.used + units) wt R' vi')) m'.over.isSome (b :: t)) /\ RM rb vj v Js vj v' (Js.set i (J.after m' (J.m.used + units) wt R' vi')) w w' := by
 obtain ⟨g, cap, hv, _, _⟩ := h.rh.form (by simp)
 have hJm : J ∈ Js := List.mem_of_getElem? hi
 have hJ := h.job J hJm
 have c2 := h.c2
 rw [hv] at c2
 have hrg : rb ≠ g := fun e => h.a2 (by rw [hv, e]; rfl)
 have g0 : w.cell? ⟨g, 0, none⟩ = some (.pointer (some ⟨b, 0, none⟩)) := by
  have := h.rh
  rw [hv] at this
  rw [this.cellAt 0 (by simp)]; rfl
 have hG : Calls Tryz.prog 78 #[.pointer (some ⟨b, 0, none⟩), .int .i64 (units : Nat)] w fun e w' => e = .returned (.tuple #[]) /\ ∃ R' vi', w'.cell? ⟨b, 4, none⟩ = some (.pointer (if m'.over.isSome then none else some ⟨J.xb, 0, none⟩)) /\ Hid (RoomAt w' rb sl vj v (Js.set i (J.after m' (J.m.used + units) wt R' vi')) (b :: t) /\ RM rb vj v Js vj v (Js.set i (J.after m' (J.m.used + units) wt R' vi')) w w') := by
  rw [<- hb]
  refine (jgoOn_any hJ hd hW hK hT hub).mono ?_
  rintro e w1 ⟨rfl, R', vi', hJ', hF, hn⟩
  refine ⟨rfl, R', vi', hJ'.cel 4 _ rfl, ?_⟩
  rw [hb]
  exact h.turn hi hJ' rfl (fun k hk => by
   rcases hk with e | e | e | e
   ·exact .inl (.inl e)
   ·exact .inl (.inr (.inl e))
   ·rcases hn k e with h3 | h3
    ·exact .inl (.inr (.inr (.inl h3)))
    ·exact .inr h3
   ·exact .inl (.inr (.inr (.inr e)))) (hF.weak fun k _ e => by
   rcases e with e | e | e
   ·exact .inl e
   ·exact .inr (.inl e)
   ·exact .inr (.inr (.inl e)))
 have HP : Hid (∀ w1 Js1, RoomAt w1 rb sl vj v Js1 (b :: t) -> Calls Tryz.prog 79 #[.iface 148 (.pointer (some ⟨rb, 2, none⟩))] w1 fun e w' => (∃ x, e = .returned x) /\ ∃ v', RoomAt w' rb sl vj v' Js1 (popL (kyOf Js1) (b :: t)) /\ RM rb vj v Js1 vj v' Js1 w1 w') := fun w1 Js1 h1 => by
  have hq := h1.hq
  rw [hv] at hq
  refine (hpop_any hq (n := t.length) rfl (by omega)).mono ?_
  rintro e w2 ⟨hx, t1, t2, t3⟩
  have hF' : Fr (fun b => b = rb ∨ v.ownBlock = some b) w1 w2 := t2.weak fun k _ e => e.elim .inl fun e => .inr (by rw [hv, e]; rfl)
  obtain ⟨r1, r2⟩ := h1.heap t1 hF' t3 (fun k hk => .inl (by rw [hv]; exact hk)) (fun c hc => h1.hin c (popL_mem (by simp) hc))
  exact ⟨hx, _, r1, r2⟩
 have HX : Hid (∀ w1 Js1, RoomAt w1 rb sl vj v Js1 (b :: t) -> Calls Tryz.prog 80 #[.iface 148 (.pointer (some ⟨rb, 2, none⟩)), .int .i64 0] w1 fun e w' => e = .returned (.tuple #[]) /\ ∃ v', RoomAt w' rb sl vj v' Js1 (fixL (kyOf Js1) (b :: t)) /\ RM rb vj v Js1 vj v' Js1 w1 w') := fun w1 Js1 h1 => by
  have hq := h1.hq
  rw [hv] at hq
  refine (hfix_any hq (by simp) (by simp; omega)).mono ?_
  rintro e w2 ⟨rfl, t1, t2⟩
  have hF' : Fr (fun b => b = rb ∨ v.ownBlock = some b) w1 w2 := t2.weak fun k _ e => .inr (by rw [hv, e]; rfl)
  obtain ⟨r1, r2⟩ := h1.heap t1 hF' (Oth.of_block (t2.block rb h1.lt hrg)) (fun k hk => .inl (by rw [hv]; exact hk)) (fun c hc => h1.hin c (fixL_mem hc))
  exact ⟨rfl, _, r1, r2⟩
 have hlen : (b :: t).length = t.length + 1 := rfl
 rw [hlen] at c2
 have htl : t.length <= 99 := ht
 clear h hJ hT hv ht hlen
 generalize t.length = k at *
 cases hov : m'.over.isSome with
 | true =>
  rw [hov] at hG
  go_enter Tryz.func59, Tryz.ntmps59
  go_wp2_with (first
   | (go_at_call 77; refine (hlen_any _ _ _ _).mono ?_; rintro e w2 ⟨rfl, h9⟩; cases h9)
   | (go_at_call 78; refine hG.mono ?_; rintro e w1 ⟨rfl, R', vi', d4, HR⟩)
   | (go_at_call 62; refine (jover_any (v := none) d4).mono ?_; rintro e w3 ⟨rfl, h9⟩; cases h9)
   | (go_at_call 79; refine (HP.out _ _ HR.out.1).mono ?_; rintro e w4 ⟨⟨x4, rfl⟩, v4, h4, h5⟩))
  go_ret
  exact ⟨rfl, R', vi', v4, h4, HR.out.2.trans h5⟩
 | false =>
  rw [hov] at hG
  go_enter Tryz.func59, Tryz.ntmps59
  go_wp2_with (first
   | (go_at_call 77; refine (hlen_any _ _ _ _).mono ?_; rintro e w2 ⟨rfl, h9⟩; cases h9)
   | (go_at_call 78; refine hG.mono ?_; rintro e w1 ⟨rfl, R', vi', d4, HR⟩)
   | (go_at_call 62; refine (jover_any (v := some ⟨J.xb, 0, none⟩) d4).mono ?_; rintro e w3 ⟨rfl, h9⟩; cases h9)
   | (go_at_call 80; refine (HX.out _ _ HR.out.1).mono ?_; rintro e w4 ⟨rfl, v4, h4, h5⟩))
  go_ret
  exact ⟨rfl, R', vi', v4, h4, HR.out.2.trans h5⟩
end
end Go.Proofs.YtklobognaldjpaaGreat
