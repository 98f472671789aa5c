/- Rooms: a new one; a job is laid into it. Rooms: Submit. Plain: what Check answers of a text that is written out. -/
import Derived.Test.YtklobognaldjpaaGreatCRm4
import Derived.Test.YtklobognaldjpaaGreatCLk13
import Derived.KernelRfl
set_option maxHeartbeats 4000000
set_option maxRecDepth 1000000
namespace Go.Proofs.YtklobognaldjpaaGreat
open Go.RowKit
section
variable {w w' w1 : World} {rb sl : Nat} {vj v vj' v' : Value} {Js Js' : List JM} {hp hp' : List Nat}
theorem newRoom_any {n : Nat} (h1 : 1 <= n) (h2 : n <= 50) (w : World) : Calls Tryz.prog 51 #[.int .i64 (n : Nat)] w fun e w' => e = .returned (.tuple #[.pointer (some ⟨w.heap.size, 0, none⟩), .int .i64 0]) /\ w' = w.alloc (.cells #[.int .i64 (n : Nat), .slice none 0 0, .slice none 0 0] 109) := by
 have e1 : ¬ (n : Int) < 1 := by omega
 have e2 : ¬ (n : Int) > 50 := by omega
 go_enter Tryz.func51, Tryz.ntmps51
 go_wp2
 go_ret2
 exact ⟨rfl, rfl⟩
theorem room_new (w : World) (n : Nat) : RoomAt (w.alloc (.cells #[.int .i64 (n : Nat), .slice none 0 0, .slice none 0 0] 109)) w.heap.size n (.slice none 0 0) (.slice none 0 0) [] [] := by
 have c := World.cell?_alloc_new w #[.int .i64 (n : Nat), .slice none 0 0, .slice none 0 0] 109
 exact ⟨(by rw [c]; rfl), (by rw [c]; rfl), (by rw [c]; rfl), (fun o => World.frozen?_alloc_new _ _ _ _), World.ownsRow_nil _ _ _ _, World.ownsRow_nil _ _ _ _, (by simp [Value.ownBlock]), (by simp [Value.ownBlock]), (fun k hk => by simp [Value.ownBlock] at hk), (fun J hJ => by cases hJ), (fun J hJ => by cases hJ), (fun i j J K hi => by simp at hi), (fun b hb => by cases hb)⟩
theorem add_any (h : RoomAt w rb sl vj v Js hp) (hl : hp.length <= 90) {J : JM} (hJ : J ∈ Js) :
  Calls Tryz.prog 75 #[.pointer (some ⟨rb, 2, none⟩), .pointer (some ⟨J.jb, 0, none⟩)] w fun e w' => e = .returned (.tuple #[]) /\ ∃ v', RoomAt w' rb sl vj v' Js (upL (kyOf Js) (hp.length + 1) (hp ++ [J.jb]) hp.length) /\ RM rb vj v Js vj v' Js w w' := by
 have hof := h.off J hJ J.jb (.inl rfl)
 have hP := hpush_any h.hq (h.key hJ) hof.1 hof.2.2 (by omega)
 have HF : Hid (∀ (w2 : World) (g cap : Nat), HQ (kyOf Js) rb 2 (.slice (some ⟨g, 0, none⟩) (hp.length + 1) cap) w2 (upL (kyOf Js) (hp.length + 1) (hp ++ [J.jb]) hp.length) -> Fr (fun b => b = rb ∨ v.ownBlock = some b) w w2 -> (v.ownBlock = some g ∨ w.heap.size <= g) -> Oth rb 2 w w2 -> RoomAt w2 rb sl vj (.slice (some ⟨g, 0, none⟩) (hp.length + 1) cap) Js (upL (kyOf Js) (hp.length + 1) (hp ++ [J.jb]) hp.length) /\ RM rb vj v Js vj (.slice (some ⟨g, 0, none⟩) (hp.length + 1) cap) Js w w2) := fun w2 g cap t1 t2 t3 t4 => by
  refine h.heap t1 t2 t4 (fun k hk => ?_) (fun b hb => ?_)
  ·have : g = k := by simpa [Value.ownBlock] using hk
   subst this
   exact t3
  ·have hb2 := (upL_perm (kyOf Js) _ _ _ (by simp)).mem_iff.1 hb
   rcases List.mem_append.1 hb2 with hb2 | hb2
   ·exact h.hin b hb2
   ·rw [List.mem_singleton] at hb2; exact ⟨J, hJ, hb2.symm⟩
 clear h hof
 go_enter Tryz.func75, Tryz.ntmps75
 go_wp2_with (go_at_call 114; refine hP.mono ?_; rintro e w2 ⟨rfl, g, cap, t1, t2, t3, t4⟩)
 go_end0
 exact ⟨rfl, _, HF.out w2 g cap t1 t2 t3 t4⟩
theorem RoomAt.more (h : RoomAt w rb sl vj v Js hp) {J : JM} (hJ : JobAt w J) (hnf : ∀ b, J.foot b -> ¬ RFoot rb vj v Js b) {g cap : Nat} {A : Obj} {w3 : World} (hg : (w.alloc A).grownBy w3 vj.ownBlock) (ho : w3.ownsRow 0 103 1 (.slice (some ⟨g, 0, none⟩) (Js.length + 1) cap) (Js.length + 1) ((Js.map fun J => ptrV J.jb) ++ [ptrV J.jb])) (hat : vj.ownBlock = some g ∨ w.heap.size <= g) :
  RoomAt (w3.setCell ⟨rb, 1, none⟩ (.slice (some ⟨g, 0, none⟩) (Js.length + 1) cap)) rb sl (.slice (some ⟨g, 0, none⟩) (Js.length + 1) cap) v (Js ++ [J]) hp /\ Fr (RFoot rb vj v Js) w (w3.setCell ⟨rb, 1, none⟩ (.slice (some ⟨g, 0, none⟩) (Js.length + 1) cap)) := by
 have b1 : Below w.heap.size w (w.alloc A) := (Below.refl _ _).alloc (Nat.le_refl _) _
 have hF3 : Fr (fun b => vj.ownBlock = some b) w w3 := (Fr.of_below b1).trans ⟨hg.os, hg.tape, hg.output, hg.size, fun k hk hn => hg.block k hk fun e => hn e.symm⟩
 have hF4 : Fr (fun b => b = rb) w3 (w3.setCell ⟨rb, 1, none⟩ (.slice (some ⟨g, 0, none⟩) (Js.length + 1) cap)) := ⟨rfl, rfl, rfl, by simp [World.setCell], fun b _ hn => Below.heap_setCell _ _ _ _ hn⟩
 have hF : Fr (fun b => b = rb ∨ vj.ownBlock = some b) w (w3.setCell ⟨rb, 1, none⟩ (.slice (some ⟨g, 0, none⟩) (Js.length + 1) cap)) := (hF3.weak fun k _ e => .inr e).trans (hF4.weak fun k _ e => .inl e)
 have hrl := h.lt
 have hgr : g ≠ rb := by
  rcases hat with e | e
  ·intro e2; exact h.a1 (by rw [e, e2])
  ·omega
 have e1 : (Value.slice (some ⟨g, 0, none⟩) (Js.length + 1) cap).ownBlock = some g := rfl
 have hO : Oth rb 1 w (w3.setCell ⟨rb, 1, none⟩ (.slice (some ⟨g, 0, none⟩) (Js.length + 1) cap)) := (Oth.of_block (hF3.block rb hrl h.a1)).trans (Oth.set _ _ _ _)
 have c1 : w3.cell? ⟨rb, 1, none⟩ = some vj := by rw [World.cell?_of_block (w := w) (hF3.block rb hrl h.a1)]; exact h.c1
 have hgn : ∀ b, b < w.heap.size -> vj.ownBlock ≠ some b -> g ≠ b := fun b hb hn e => by
  rcases hat with e2 | e2
  ·exact hn (by rw [e2, e])
  ·omega
 refine ⟨⟨by rw [(hO 0).1 (by omega)]; exact h.c0, World.cell?_setCell_same _ _ _ c1, by rw [(hO 2).1 (by omega)]; exact h.c2, fun o => by rw [(hO o).2]; exact h.fz o, ?_, row_kept h.rh fun k e => hF.block k (h.rh.lt k e).2 ?_, fun e => hgr (by rw [e1] at e; exact Option.some.inj e), h.a2, fun k e e2 => ?_, fun K hK => ?_, fun K hK b hb => ?_, fun a c A' C ha hc hac b hb hb2 => ?_, fun b hb => ?_⟩, hF.weak fun k _ e => e.elim .inl fun e => .inr (.inl e)⟩
 ·rw [List.length_append, List.map_append]
  exact row_kept ho fun k e => by
   rw [e1] at e
   have : g = k := Option.some.inj e
   exact Below.heap_setCell _ _ _ _ (by intro e3; exact hgr (this.trans e3))
 ·rintro (e2 | e2)
  ·exact h.a2 (by rw [e, e2])
  ·exact h.a3 k e2 e
 ·rw [e1] at e
  have : g = k := Option.some.inj e
  subst this
  exact hgn g (h.rh.lt g e2).2 (fun e3 => h.a3 g e3 e2) rfl
 ·rcases List.mem_append.1 hK with hK | hK
  ·exact (h.job K hK).same hF.size fun b hb => hF.block b ((h.job K hK).footlt hb) (by
    have := h.off K hK b hb
    rintro (e | e)
    ·exact this.1 e
    ·exact this.2.1 e)
  ·rw [List.mem_singleton] at hK
   subst hK
   exact hJ.same hF.size fun b hb => hF.block b (hJ.footlt hb) (by
    rintro (e | e)
    ·exact hnf b hb (.inl e)
    ·exact hnf b hb (.inr (.inl e)))
 ·rw [e1]
  rcases List.mem_append.1 hK with hK | hK
  ·have := h.off K hK b hb
   exact ⟨this.1, fun e => hgn b ((h.job K hK).footlt hb) this.2.1 (Option.some.inj e), this.2.2⟩
  ·rw [List.mem_singleton] at hK
   subst hK
   exact ⟨fun e => hnf b hb (.inl e), fun e => hgn b (hJ.footlt hb) (fun e3 => hnf b hb (.inr (.inl e3))) (Option.some.inj e), fun e => hnf b hb (.inr (.inr (.inl e)))⟩
 ·have hcase : ∀ x (X : JM), (Js ++ [J])[x]? = some X -> (x < Js.length /\ Js[x]? = some X) ∨ (x = Js.length /\ X = J) := fun x X hx => by
   by_cases hl : x < Js.length
   ·rw [List.getElem?_append_left hl] at hx; exact .inl ⟨hl, hx⟩
   ·rw [List.getElem?_append_right (by omega)] at hx
    have : x - Js.length = 0 := by
     by_cases h0 : x - Js.length = 0
     ·exact h0
     ·rw [List.getElem?_eq_none (by simp; omega)] at hx; cases hx
    rw [this] at hx
    exact .inr ⟨by omega, (Option.some.inj hx).symm⟩
  rcases hcase a A' ha with ⟨a1, a2⟩ | ⟨a1, rfl⟩
  ·rcases hcase c C hc with ⟨c2, c3⟩ | ⟨c2, rfl⟩
   ·exact h.dis a c A' C a2 c3 hac b hb hb2
   ·exact hnf b hb2 (.inr (.inr (.inr ⟨A', List.mem_of_getElem? a2, hb⟩)))
  ·rcases hcase c C hc with ⟨c2, c3⟩ | ⟨c2, rfl⟩
   ·exact hnf b hb (.inr (.inr (.inr ⟨C, List.mem_of_getElem? c3, hb2⟩)))
   ·omega
 ·obtain ⟨K, hK, e⟩ := h.hin b hb
  exact ⟨K, List.mem_append_left _ hK, e⟩
end
section
variable {w w' w1 : World} {rb sl : Nat} {vj v vj' v' : Value} {Js Js' : List JM} {hp hp' : List Nat}
def jobOf (jb xb wb wc : Nat) (l : List UInt8) (zs : List Int) (fuel : Nat) (R : MR) (vi : Value) (Q : Nat -> Prop) (num : Nat) : JM := ⟨jb, xb, wb, wc, (cPr (treeOf l)).1, Q, fuel, 0, false, R, vi, m0 (cPr (treeOf l)) zs, num, false, .slice none 0 0⟩
def jobObj (n : Nat) (xb : Nat) : Obj := .cells #[.int .i64 ((n : Int) + 1), .int .i64 0, .slice none 0 0, .int .i64 0, .pointer (some ⟨xb, 0, none⟩)] 151
theorem jobOf_at {w1 : World} {xb wb wc fuel n : Nat} {l : List UInt8} {zs : List Int} {R : MR} {vi : Value} {Q : Nat -> Prop} (hM : MC xb wb wc (cPr (treeOf l)).1 Q w1 (m0 (cPr (treeOf l)) zs) fuel 0 false R vi) : JobAt (w1.alloc (jobObj n xb)) (jobOf w1.heap.size xb wb wc l zs fuel R vi Q (n + 1)) := by
 have c := World.cell?_alloc_new w1 #[.int .i64 ((n : Int) + 1), .int .i64 0, .slice none 0 0, .int .i64 0, .pointer (some ⟨xb, 0, none⟩)] 151
 refine ⟨fun o u ho => ?_, fun o => World.frozen?_alloc_new _ _ _ _, hM.below ((Below.refl _ _).alloc (Nat.le_refl _) _), ?_, fun e => ?_, fun e => ?_, .inr ⟨rfl, rfl⟩⟩
 ·refine (c o).trans ?_
  have e : (jobOf w1.heap.size xb wb wc l zs fuel R vi Q (n + 1)).cells = [.int .i64 ((n : Int) + 1), .int .i64 0, .slice none 0 0, .int .i64 0, .pointer (some ⟨xb, 0, none⟩)] := by
   unfold JM.cells jobOf m0
   simp
  rw [e] at ho
  rw [<- ho]
  simp
 ·have := hM.rows.xlt; show w1.heap.size ≠ xb; omega
 ·have := hM.rows.lt _ e; exact absurd this (Nat.lt_irrefl _)
 ·have := (hM.rows.far _ e).1; exact absurd this (Nat.lt_irrefl _)
theorem submit_ok (h : RoomAt w rb sl vj v Js hp) (hJl : Js.length <= 4) (hhl : hp.length <= 5) {l : List UInt8} {vin : Value} {zs : List Int} {fuel : Nat} (hin : IntsAt w vin zs) (hzl : zs.length <= 35184372088831) (hc : (checkP l).1 = 0) (hf : fuel <= 3000) (hok : okIn zs = true) :
  Calls Tryz.prog 53 #[.pointer (some ⟨rb, 0, none⟩), .string ⟨l.toArray⟩, vin, .int .i64 (fuel : Nat)] w fun e w' => e = .returned (.tuple #[.int .i64 ((Js.length : Int) + 1), .int .i64 0, .int .i64 0]) /\ ∃ J vj' v', (J.W = (cPr (treeOf l)).1 /\ J.m = m0 (cPr (treeOf l)) zs /\ J.fuel = fuel /\ J.num = Js.length + 1 /\ J.done = false) /\ RoomAt w' rb sl vj' v' (Js ++ [J]) (upL (kyOf (Js ++ [J])) (hp.length + 1) (hp ++ [J.jb]) hp.length) /\ RM rb vj v Js vj' v' (Js ++ [J]) w w' := by
 obtain ⟨i0, hi, hz0, hz1, hz2⟩ := info_parts Tryz.infoJob
 obtain ⟨va, vc, hv, _⟩ := owned_row h.rj
 have HP : Calls Tryz.prog 48 #[.string ⟨l.toArray⟩, vin, .int .i64 (fuel : Nat)] w fun e w1 => ∃ xb, e = .returned (.tuple #[.pointer (some ⟨xb, 0, none⟩), .int .i64 0, .int .i64 0]) /\ Hid (Below w.heap.size w w1 /\ ∃ wb wc vi, ∃ (R : MR) (Q : Nat -> Prop), w.heap.size <= xb /\ (∀ b, R.has b -> w.heap.size <= b) /\ (∀ b, Q b -> w.heap.size <= b) /\ MC xb wb wc (cPr (treeOf l)).1 Q w1 (m0 (cPr (treeOf l)) zs) fuel 0 false R vi) := by
  refine (prepare_any ⟨l.toArray⟩ vin zs fuel w hin hzl).mono ?_
  rintro e w1 ⟨hb, hx⟩
  have el : (⟨l.toArray⟩ : ByteArray).data.toList = l := rfl
  rw [el] at hx
  rcases hx with hx | hx | hx | hx
  ·exact absurd hc hx.1
  ·exact absurd (by omega) hx.2.1
  ·rw [hok] at hx; cases hx.2.2.1
  ·obtain ⟨_, _, _, xb, wb, wc, vi, R, Q, h1, h2, h3, rfl, hM⟩ := hx
   rw [show ((fuel : Nat) : Int).toNat = fuel by omega] at hM
   exact ⟨xb, rfl, hb, wb, wc, vi, R, Q, h1, h2, h3, hM⟩
 have HK : Hid (∀ (w1 : World) (xb : Nat), (Below w.heap.size w w1 /\ ∃ wb wc vi, ∃ (R : MR) (Q : Nat -> Prop), w.heap.size <= xb /\ (∀ b, R.has b -> w.heap.size <= b) /\ (∀ b, Q b -> w.heap.size <= b) /\ MC xb wb wc (cPr (treeOf l)).1 Q w1 (m0 (cPr (treeOf l)) zs) fuel 0 false R vi) ->
   (w1.cell? ⟨rb, 1, none⟩ = some (.slice va Js.length vc) /\ rb < w1.heap.size) /\
   (∀ A, ((w1.alloc (jobObj Js.length xb)).alloc A).ownsRow 0 103 1 (.slice va Js.length vc) Js.length (Js.map fun J => ptrV J.jb)) /\
   ∀ (A : Obj) (w3 : World) (gg cp : Nat), ((w1.alloc (jobObj Js.length xb)).alloc A).grownBy w3 (Value.slice va Js.length vc).ownBlock -> w3.ownsRow 0 103 1 (.slice (some ⟨gg, 0, none⟩) (Js.length + 1) cp) (Js.length + 1) ((Js.map fun J => ptrV J.jb) ++ [.pointer (some ⟨w1.heap.size, 0, none⟩)]) -> ((Value.slice va Js.length vc).ownBlock = some gg ∨ gg = w1.heap.size + 1 + 1) ->
    (w3.cell? ⟨rb, 1, none⟩ = some (.slice va Js.length vc) /\ w3.frozen? ⟨rb, 1, none⟩ = false) /\
    Hid (Calls Tryz.prog 75 #[.pointer (some ⟨rb, 2, none⟩), .pointer (some ⟨w1.heap.size, 0, none⟩)] (w3.setCell ⟨rb, 1, none⟩ (.slice (some ⟨gg, 0, none⟩) (Js.length + 1) cp)) fun e w' => e = .returned (.tuple #[]) /\ w'.cell? ⟨w1.heap.size, 0, none⟩ = some (.int .i64 ((Js.length : Int) + 1)) /\ Hid (∃ J vj' v', (J.W = (cPr (treeOf l)).1 /\ J.m = m0 (cPr (treeOf l)) zs /\ J.fuel = fuel /\ J.num = Js.length + 1 /\ J.done = false) /\ RoomAt w' rb sl vj' v' (Js ++ [J]) (upL (kyOf (Js ++ [J])) (hp.length + 1) (hp ++ [J.jb]) hp.length) /\ RM rb vj v Js vj' v' (Js ++ [J]) w w'))) := by
  rintro w1 xb ⟨hb1, wb, wc, vi, R, Q, p1, p2, p3, hM⟩
  have hs1 := hb1.size
  have h1 := h.below hb1
  have hJ := jobOf_at (n := Js.length) hM
  have b2 : Below w1.heap.size w1 (w1.alloc (jobObj Js.length xb)) := (Below.refl _ _).alloc (Nat.le_refl _) _
  have h2 := h1.below b2
  have hsz2 : (w1.alloc (jobObj Js.length xb)).heap.size = w1.heap.size + 1 := by simp
  have hfo : ∀ b, (jobOf w1.heap.size xb wb wc l zs fuel R vi Q (Js.length + 1)).foot b -> w.heap.size <= b := fun b hb => by
   rcases hb with e | e | e | e
   ·have e : b = w1.heap.size := e
    omega
   ·have e : b = xb := e
    omega
   ·exact p2 b e
   ·exact p3 b e
  have hnf : ∀ b, (jobOf w1.heap.size xb wb wc l zs fuel R vi Q (Js.length + 1)).foot b -> ¬ RFoot rb vj v Js b := fun b hb hb2 => by
   have := hfo b hb
   have := h.footlt hb2
   omega
  refine ⟨⟨by rw [<- hv]; exact h1.c1, h1.lt⟩, fun A => by rw [<- hv]; exact h2.rj.alloc A, fun A w3 gg cp hg ho hat => ?_⟩
  rw [<- hv] at hg hat
  have hF3 : Fr (fun b => vj.ownBlock = some b) (w1.alloc (jobObj Js.length xb)) w3 := (Fr.of_below ((Below.refl _ _).alloc (Nat.le_refl _) A)).trans ⟨hg.os, hg.tape, hg.output, hg.size, fun k hk hn => hg.block k hk fun e => hn e.symm⟩
  have hr3 := hF3.block rb h2.lt h2.a1
  refine ⟨⟨by rw [World.cell?_of_block (w := w1.alloc (jobObj Js.length xb)) hr3, <- hv]; exact h2.c1, by rw [World.frozen?_of_block (w := w1.alloc (jobObj Js.length xb)) hr3]; exact h2.fz 1⟩, ?_⟩
  obtain ⟨r1, r2⟩ := h2.more hJ hnf hg ho (by
   rcases hat with e | e
   ·exact .inl e
   ·exact .inr (by omega))
  have hA := add_any r1 (by omega) (J := jobOf w1.heap.size xb wb wc l zs fuel R vi Q (Js.length + 1)) (by simp)
  refine hA.mono ?_
  rintro e w5 ⟨rfl, v5, r5, r6⟩
  have hJ5 := r5.job (jobOf w1.heap.size xb wb wc l zs fuel R vi Q (Js.length + 1)) (by simp)
  refine ⟨rfl, ?_, ?_⟩
  ·have := hJ5.cel 0 _ rfl
   have e2 : (((jobOf w1.heap.size xb wb wc l zs fuel R vi Q (Js.length + 1)).num : Nat) : Int) = (Js.length : Int) + 1 := by show ((Js.length + 1 : Nat) : Int) = _; omega
   rw [e2] at this
   exact this
  ·refine ⟨_, _, _, ⟨rfl, rfl, rfl, rfl, rfl⟩, r5, ?_⟩
   have q1 : RM rb vj v Js (.slice (some ⟨gg, 0, none⟩) (Js.length + 1) cp) v (Js ++ [jobOf w1.heap.size xb wb wc l zs fuel R vi Q (Js.length + 1)]) w (w3.setCell ⟨rb, 1, none⟩ (.slice (some ⟨gg, 0, none⟩) (Js.length + 1) cp)) := by
    refine ⟨((Fr.of_below hb1).trans (Fr.of_below b2)).trans r2, fun b hb => ?_⟩
    rcases hb with e | e | e | ⟨K, hK, e⟩
    ·exact .inl (.inl e)
    ·have e4 : gg = b := Option.some.inj e
     rcases hat with e3 | e3
     ·exact .inl (.inr (.inl (by rw [e3, e4])))
     ·exact .inr (by omega)
    ·exact .inl (.inr (.inr (.inl e)))
    ·rcases List.mem_append.1 hK with hK | hK
     ·exact .inl (.inr (.inr (.inr ⟨K, hK, e⟩)))
     ·rw [List.mem_singleton] at hK; subst hK; exact .inr (hfo b e)
   exact q1.trans r6
 clear h hin hv
 have hjl : Js.length <= 4 := hJl
 have hj5 : ¬ (Js.length : Int) = 5 := by omega
 unfold jobObj at HK
 generalize (Js.map fun J => ptrV J.jb) = mp at *
 generalize Js.length = n at *
 go_enter Tryz.func53, Tryz.ntmps53
 go_wp2_with (first
  | (go_at_call 48; refine HP.mono ?_; rintro e w1 ⟨xb, rfl, HX⟩; obtain ⟨⟨k1, k2⟩, k3, HY⟩ := HK.out w1 xb HX.out; have HYY : Hid _ := HY; clear HY)
  | (go_at_call 74; refine (newJob_any _ _ _).mono ?_; rintro e w2 ⟨rfl, rfl⟩)
  | (at_builtin; go_loud (refine wpList_append_lies _ rfl _ _ 104 rfl 0 103 i0 _ 1 8 Tryz.underlying104 hi hz0 hz1 hz2 rfl (by decide) _ _ _ rfl (k3 _) ⟨w1.heap.size + 1, 0, none⟩ 1 1 [.pointer (some ⟨w1.heap.size, 0, none⟩)] rfl (by simp) (by intro j u hj; cases j with | zero => simp at hj; subst hj; simp [Addr.add] | succ j => simp at hj) (by simp [Value.oneCell']) (by omega) (by unfold maxLen; omega) (by omega) (Nat.zero_le _) (w1.heap.size + 1 + 1) (by simp) ?_); intro gg cp w3 hown3 hg3 hat3 hlt3; obtain ⟨⟨k5, k6⟩, HA⟩ := HYY.out _ w3 gg cp hg3 hown3 hat3)
  | (go_at_call 75; refine HA.out.mono ?_; rintro e w5 ⟨rfl, k7, HZ⟩)
  | (go_at_call 60; refine (jnumber_any k7).mono ?_; rintro e w6 ⟨rfl, h9⟩; cases h9))
 go_ret3
 exact ⟨rfl, HZ.out⟩
end
def gapF : Nat -> List UInt8 -> Nat -> Nat
 | 0, _, p => p
 | n + 1, l, p => if p < l.length then (if gapSz (l.drop p) = 0 then p else gapF n l (p + gapSz (l.drop p))) else p
theorem gapF_eq : ∀ (n : Nat) (l : List UInt8) (p : Nat), l.length - p <= n -> gapF n l p = gap l p
 | 0, l, p, h => by rw [gap, if_neg (by omega)]; rfl
 | n + 1, l, p, h => by
  rw [gap, gapF]
  split
  ·split
   ·rfl
   ·rename_i h1 h2
    exact gapF_eq n l _ (by omega)
  ·rfl
def lexF : Nat -> List UInt8 -> Nat -> Except (Nat × Nat) (List Tok)
 | 0, l, _ => .ok [overTok l]
 | n + 1, l, q =>
  if q < l.length then
   match lex1 (l.drop q) with
   | .error c => .error (c, q)
   | .ok x => match lexF n l (gapF l.length l (q + x.2.1)) with
    | .error e => .error e
    | .ok r => .ok (mkTok l q x :: r)
  else .ok [overTok l]
theorem lexF_eq : ∀ (n : Nat) (l : List UInt8) (q : Nat), l.length - q <= n -> lexF n l q = lexAt l q
 | 0, l, q, h => by rw [lexAt_end (by omega)]; rfl
 | n + 1, l, q, h => by
  rw [lexF]
  by_cases hq : q < l.length
  ·rw [if_pos hq]
   cases hx : lex1 (l.drop q) with
   | error c => rw [lexAt_bad hq hx]
   | ok x =>
    have hp := lex1_pos (k := x.1) (n := x.2.1) (v := x.2.2) hx
    have hg := gap_ge l (q + x.2.1)
    rw [lexAt_ok hq hx]
    show (match lexF n l (gapF l.length l (q + x.2.1)) with | .error e => Except.error e | .ok r => .ok (mkTok l q x :: r)) = _
    rw [gapF_eq _ _ _ (by omega), lexF_eq n l _ (by omega)]
    cases lexAt l (gap l (q + x.2.1)) <;> rfl
  ·rw [if_neg hq, lexAt_end hq]
def checkE (l : List UInt8) : Nat × Nat :=
 if 600 < l.length then (1, 0)
 else match lexF l.length l (gapF l.length l 0) with
  | .error x => x
  | .ok T =>
   if (programP T ⟨0, 0, 0⟩).2.code = 0 then (match lookPr env0 (programP T ⟨0, 0, 0⟩).1 with | none => (0, 0) | some x => x)
   else ((programP T ⟨0, 0, 0⟩).2.code, (programP T ⟨0, 0, 0⟩).2.at_)
theorem checkE_eq (l : List UInt8) : checkE l = checkP l := by
 unfold checkE checkP lexAll
 rw [gapF_eq _ _ _ (by omega), lexF_eq _ _ _ (by omega)]
 rfl
def digF : Nat -> Nat -> List UInt8
 | 0, _ => []
 | f + 1, n => if n < 10 then [UInt8.ofNat (48 + n)] else digF f (n / 10) ++ [UInt8.ofNat (48 + n % 10)]
def digL (n : Nat) : List UInt8 := digF 20 n
end Go.Proofs.YtklobognaldjpaaGreat
