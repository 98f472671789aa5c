/- Statements in memory; those that begin with a name. A choice, a list of statements. A list of statements. A statement. -/
import Derived.Test.YtklobognaldjpaaGreatCParse10
import Derived.Test.YtklobognaldjpaaGreatCPure5
set_option maxRecDepth 1000000
set_option maxHeartbeats 1000000
namespace Go.Proofs.YtklobognaldjpaaGreat
open Go.RowKit
inductive RSt (Q : Nat -> Prop) (w : World) : Value -> St -> Prop
 | nil : RSt Q w .nilIface .nil
 | assign (n : ByteArray) (p : Nat) {ve : Value} {e : Ex} : REx Q w ve e -> RSt Q w (.iface 253 (.agg #[.string n, .int .i64 p, ve])) (.assign n p e)
 | put (n : ByteArray) (p : Nat) {vi ve : Value} {i e : Ex} : REx Q w vi i -> REx Q w ve e -> RSt Q w (.iface 257 (.agg #[.string n, .int .i64 p, vi, ve])) (.put n p i e)
 | proc (n : ByteArray) (p : Nat) {va : Value} {vs : List Value} {args : List Ex} : SliceV Q w va vs -> RAll Q w vs args -> RSt Q w (.iface 261 (.agg #[.string n, .int .i64 p, va])) (.proc n p args)
 | ite {vc vt vf : Value} {c : Ex} {t f : St} : REx Q w vc c -> RSt Q w vt t -> RSt Q w vf f -> RSt Q w (.iface 264 (.agg #[vc, vt, vf])) (.ite c t f)
 | loop {vc vb : Value} {c : Ex} {b : St} : REx Q w vc c -> RSt Q w vb b -> RSt Q w (.iface 267 (.agg #[vc, vb])) (.loop c b)
 | block {va : Value} {vs : List Value} {l : List St} : SliceV Q w va vs -> vs.length = l.length -> (∀ (j : Nat) v e, vs[j]? = some v -> l[j]? = some e -> RSt Q w v e) -> RSt Q w (.iface 248 (.agg #[va])) (.block l)
 | write {ve : Value} {e : Ex} : REx Q w ve e -> RSt Q w (.iface 270 (.agg #[ve])) (.write e)
 | read (n : ByteArray) (p : Nat) : RSt Q w (.iface 271 (.agg #[.string n, .int .i64 p])) (.read n p)
theorem RSt.keep {Q : Nat -> Prop} {w w' : World} {v : Value} {e : St} (h : RSt Q w v e) (hk : KeepQ Q w w') : RSt Q w' v e := by
 induction h with
 | nil => exact .nil
 | assign n p h => exact .assign n p (h.keep hk)
 | put n p h1 h2 => exact .put n p (h1.keep hk) (h2.keep hk)
 | proc n p h1 h2 => exact .proc n p (h1.keep hk) (h2.keep hk)
 | ite h _ _ ih1 ih2 => exact .ite (h.keep hk) ih1 ih2
 | loop h _ ih => exact .loop (h.keep hk) ih
 | block hs hl _ ih => exact .block (hs.keep hk) hl ih
 | write h => exact .write (h.keep hk)
 | read n p => exact .read n p
theorem RSt.weak {Q Q' : Nat -> Prop} {w : World} {v : Value} {e : St} (h : RSt Q w v e) (hq : ∀ b, Q b -> b < w.heap.size -> Q' b) : RSt Q' w v e := by
 induction h with
 | nil => exact .nil
 | assign n p h => exact .assign n p (h.weak hq)
 | put n p h1 h2 => exact .put n p (h1.weak hq) (h2.weak hq)
 | proc n p h1 h2 => exact .proc n p (h1.weak hq) (h2.weak hq)
 | ite h _ _ ih1 ih2 => exact .ite (h.weak hq) ih1 ih2
 | loop h _ ih => exact .loop (h.weak hq) ih
 | block hs hl _ ih => exact .block (hs.weak hq) hl ih
 | write h => exact .write (h.weak hq)
 | read n p => exact .read n p
theorem RSt.up {lo lo' : Nat} {w : World} {v : Value} {e : St} (h : RSt (From lo') w v e) (hl : lo <= lo') : RSt (From lo) w v e := h.weak fun b hb _ => by unfold From at *; omega
theorem RSt.cells {Q : Nat -> Prop} {w : World} {v : Value} {e : St} (h : RSt Q w v e) : ∀ cs, v = .agg cs -> False := by cases h <;> (intro cs hc; cases hc)
theorem RSt.one {Q : Nat -> Prop} {w : World} {v : Value} {e : St} (h : RSt Q w v e) : v.oneCell' = true := by cases h <;> rfl
def StPost (pb tb cap : Nat) (T : List Tok) (r : St × PS) (w : World) (e : Ending) (w' : World) : Prop :=
 ∃ v, e = .returned v /\ RSt (From w.heap.size) w' v r.1 /\ PW pb tb cap T w' r.2 /\ Par pb w w'
def StOK (pb tb cap : Nat) (T : List Tok) (F : Nat) (d : Int) (pf : PS -> St × PS) : Prop :=
 ∀ w s, PW pb tb cap T w s -> Good T s -> Calls Tryz.prog F #[.pointer (some ⟨pb, 0, none⟩), .int .i64 d] w fun e w' => StPost pb tb cap T (pf s) w e w'
section
variable {pb tb cap : Nat} {T : List Tok} {d : Int} {pf : PS -> Ex × PS}
theorem namedSt_ok (hT : Toks T) (hX : ExOK pb tb cap T 207 (d + 1) pf) (hM : Mon T pf) (hd0 : 0 <= d) (hd1 : d <= 14) : StOK pb tb cap T 205 d (namedSt T pf) := by
 intro w s h hg
 have hpl := h.lt
 have htl := h.tlt
 have hN := name_any h hg
 have hwr : IntKind.i64.wrap (d + 1) = d + 1 := by rw [IntKind.wrap_i64]; omega
 have hgn := (mon_nameP hT s hg).1
 cases hs : sees T (bs [40]) (nameP T s).2 with
 | true =>
  have hga := good_adv hT hgn hs (bs_ne _ (by simp))
  have HE : Hid (namedSt T pf s = (.proc (nameP T s).1.1 (nameP T s).1.2 (argsOf T pf (adv (nameP T s).2)).1, (argsOf T pf (adv (nameP T s).2)).2)) := by show _ = _; unfold namedSt; rw [hs]; rfl
  generalize (nameP T s).1.1 = nn at *
  generalize (nameP T s).1.2 = np at *
  generalize (nameP T s).2 = s1 at *
  go_enter Tryz.func205, Tryz.ntmps205
  go_wp2_with (first
   | (go_at_call 189; refine hN.mono ?_; rintro e w1 ⟨rfl, hP1, hk1⟩; have hl1 := hP1.lt)
   | (go_at_call 165; refine (take_yes (hP1.alloc _) hgn (bs [40]) hs).mono ?_; rintro e w2 ⟨rfl, hP2, hk2⟩; obtain ⟨q0, q1, hs2⟩ := hk2.new hl1))
  go_region_with (go_at_call 212; refine (args_any hT hX hM (hP2.below (Below.refl _ _).drew) hga).mono ?_; rintro e w3 ⟨v3, vs3, rfl, hS3, hA3, hP3, hk3⟩; have hc3 := hS3.cells; obtain ⟨q3, q4, hs4⟩ := ((hk2.drewN 1).trans hk3).new hl1)
  all_goals go_wp2
  all_goals go_ret
  all_goals refine ⟨_, rfl, ?_⟩
  all_goals rw [HE.out]
  all_goals have hlo : w.heap.size <= w2.drew.heap.size := Nat.le_trans (Nat.le_trans hk1.size (by simp)) hk2.size
  all_goals exact ⟨.proc _ _ (hS3.weak fun b hb _ => Nat.le_trans hlo hb) (hA3.weak fun b hb _ => Nat.le_trans hlo hb), hP3, ((hk1.alloc _).trans (hk2.drewN 1)).trans hk3⟩
 | false =>
  cases hs2 : sees T (bs [91]) (nameP T s).2 with
  | true =>
   have hga := good_adv hT hgn hs2 (bs_ne _ (by simp))
   have HE : Hid (namedSt T pf s = (.put (nameP T s).1.1 (nameP T s).1.2 (indexOf T pf (adv (nameP T s).2)).1 (pf (want T (bs [58, 61]) (indexOf T pf (adv (nameP T s).2)).2)).1, (pf (want T (bs [58, 61]) (indexOf T pf (adv (nameP T s).2)).2)).2)) := by show _ = _; unfold namedSt; rw [hs, hs2]; rfl
   have hgi := (mon_indexOf hT hM (adv (nameP T s).2) hga).1
   have hgw := (mon_want hT (f := bs [58, 61]) (bs_ne _ (by simp)) hgi).1
   have hI := fun w (hP : PW pb tb cap T w (adv (nameP T s).2)) => index_any hX hM hP hga
   generalize (nameP T s).1.1 = nn at *
   generalize (nameP T s).1.2 = np at *
   generalize (nameP T s).2 = s1 at *
   generalize (indexOf T pf (adv s1)).1 = ei at *
   generalize (indexOf T pf (adv s1)).2 = si at *
   go_enter Tryz.func205, Tryz.ntmps205
   go_wp2_with (first
    | (go_at_call 189; refine hN.mono ?_; rintro e w1 ⟨rfl, hP1, hk1⟩; have hl1 := hP1.lt)
    | (go_at_call 165; refine (take_yes hP2 hgn (bs [91]) hs2).mono ?_; rintro e w22 ⟨rfl, hP22, hk22'⟩; have hk22 := hk2.trans hk22')
    | (go_at_call 165; refine (take_no (hP1.alloc _) hgn (bs [40]) hs).mono ?_; rintro e w2 ⟨rfl, hP2, hk2⟩)
    | (go_at_call 213; refine (hI _ hP22).mono ?_; rintro e w3 ⟨v3, rfl, hR3, hP3, hk3⟩; have hc3 := hR3.cells)
    | (go_at_call 144; refine (want_any hP3 hgi (bs [58, 61])).mono ?_; rintro e w4 ⟨rfl, hP4, hk4⟩; have hk24 := (hk22.trans hk3).trans hk4; obtain ⟨q0, q1, hs22⟩ := hk24.new hl1))
   go_region_with (go_at_call 207; refine (hX _ _ (hP4.below (Below.refl _ _).drew) hgw).mono ?_; rintro e w5 ⟨v5, rfl, hR5, hP5, hk5⟩; have hc5 := hR5.cells; obtain ⟨q3, q4, hs4⟩ := ((hk24.drewN 1).trans hk5).new hl1)
   all_goals go_wp2
   all_goals go_ret
   all_goals refine ⟨_, rfl, ?_⟩
   all_goals rw [HE.out]
   all_goals have hlo2 : w.heap.size <= w22.heap.size := Nat.le_trans (Nat.le_trans hk1.size (by simp)) hk22.size
   all_goals have hlo : w.heap.size <= w4.drew.heap.size := Nat.le_trans (Nat.le_trans hk1.size (by simp)) hk24.size
   all_goals exact ⟨.put _ _ ((hR3.up hlo2).keep (((hk4.drewN 1).trans hk5).keepQ hpl)) (hR5.up hlo), hP5, ((hk1.alloc _).trans (hk24.drewN 1)).trans hk5⟩
  | false =>
   have HE : Hid (namedSt T pf s = (.assign (nameP T s).1.1 (nameP T s).1.2 (pf (want T (bs [58, 61]) (nameP T s).2)).1, (pf (want T (bs [58, 61]) (nameP T s).2)).2)) := by show _ = _; unfold namedSt; rw [hs, hs2]; rfl
   have hgw := (mon_want hT (f := bs [58, 61]) (bs_ne _ (by simp)) hgn).1
   generalize (nameP T s).1.1 = nn at *
   generalize (nameP T s).1.2 = np at *
   generalize (nameP T s).2 = s1 at *
   go_enter Tryz.func205, Tryz.ntmps205
   go_wp2_with (first
    | (go_at_call 189; refine hN.mono ?_; rintro e w1 ⟨rfl, hP1, hk1⟩; have hl1 := hP1.lt)
    | (go_at_call 165; refine (take_no hP2 hgn (bs [91]) hs2).mono ?_; rintro e w22 ⟨rfl, hP22, hk22'⟩; have hk22 := hk2.trans hk22')
    | (go_at_call 165; refine (take_no (hP1.alloc _) hgn (bs [40]) hs).mono ?_; rintro e w2 ⟨rfl, hP2, hk2⟩)
    | (go_at_call 144; refine (want_any hP22 hgn (bs [58, 61])).mono ?_; rintro e w4 ⟨rfl, hP4, hk4⟩; have hk24 := hk22.trans hk4; obtain ⟨q0, q1, hs22⟩ := hk24.new hl1))
   go_region_with (go_at_call 207; refine (hX _ _ (hP4.below (Below.refl _ _).drew) hgw).mono ?_; rintro e w5 ⟨v5, rfl, hR5, hP5, hk5⟩; have hc5 := hR5.cells; obtain ⟨q3, q4, hs4⟩ := ((hk24.drewN 1).trans hk5).new hl1)
   all_goals go_wp2
   all_goals go_ret
   all_goals refine ⟨_, rfl, ?_⟩
   all_goals rw [HE.out]
   all_goals have hlo : w.heap.size <= w4.drew.heap.size := Nat.le_trans (Nat.le_trans hk1.size (by simp)) hk24.size
   all_goals exact ⟨.assign _ _ (hR5.up hlo), hP5, ((hk1.alloc _).trans (hk24.drewN 1)).trans hk5⟩
end
theorem Tryz.infoStmt : (Tryz.prog.info? 225).map (fun i => (i.zero, i.size, i.bytes)) = some (some .nilIface, 1, 16) := by kernel_rfl
theorem run_store_one {v : Value} (h : v.oneCell' = true) : ∀ (a : Addr) (m : Mode) (w : World), (store a v m).run Tryz.prog w = stored Tryz.prog w a v m := fun a m w => run_store _ w a v m h
theorem KeepQ.refl (Q : Nat -> Prop) (w : World) : KeepQ Q w w := ⟨Nat.le_refl _, fun _ _ _ => rfl⟩
theorem KeepQ.trans {Q : Nat -> Prop} {a b c : World} (h : KeepQ Q a b) (k : KeepQ Q b c) : KeepQ Q a c := ⟨Nat.le_trans h.1 k.1, fun i hi hl => (k.2 i hi (Nat.lt_of_lt_of_le hl h.1)).trans (h.2 i hi hl)⟩
theorem KeepQ.of_par {Q : Nat -> Prop} {pb : Nat} {a b : World} (h : Par pb a b) (hq : ∀ i, Q i -> i ≠ pb) : KeepQ Q a b := ⟨h.size, fun i hi hl => h.block i hl (hq i hi)⟩
theorem KeepQ.setCell {Q : Nat -> Prop} {a w : World} (h : KeepQ Q a w) (p : Addr) (v : Value) (hq : ∀ i, Q i -> i ≠ p.block) : KeepQ Q a (w.setCell p v) :=
 h.trans ⟨by simp [World.setCell], fun i hi _ => Below.heap_setCell _ _ _ _ (hq i hi)⟩
def But (lo B : Nat) : Nat -> Prop := fun b => lo <= b /\ b ≠ B
theorem par_three {pb b : Nat} {w w' : World} {a0 a1 a2 v : Value} (hn : b ≠ pb) (h0 : w.cell? ⟨b, 0, none⟩ = some a0) (h1 : w.cell? ⟨b, 1, none⟩ = some a1) (h2 : w.cell? ⟨b, 2, none⟩ = some a2) (hf : ∀ o, w.frozen? ⟨b, o, none⟩ = false)
  (hk : Par pb (w.setCell ⟨b, 1, none⟩ v) w') : w'.cell? ⟨b, 0, none⟩ = some a0 /\ w'.cell? ⟨b, 1, none⟩ = some v /\ w'.cell? ⟨b, 2, none⟩ = some a2 /\ (∀ o, w'.frozen? ⟨b, o, none⟩ = false) := by
 have hl : b < (w.setCell ⟨b, 1, none⟩ v).heap.size := by simp [World.setCell]; exact lt_of_cell h0
 refine ⟨?_, ?_, ?_, fun o => ?_⟩
 ·rw [hk.cell (p := ⟨b, 0, none⟩) hl hn, World.cell?_setCell_other _ _ _ _ (by simp)]; exact h0
 ·rw [hk.cell (p := ⟨b, 1, none⟩) hl hn]; exact World.cell?_setCell_same _ _ _ h1
 ·rw [hk.cell (p := ⟨b, 2, none⟩) hl hn, World.cell?_setCell_other _ _ _ _ (by simp)]; exact h2
 ·rw [hk.frozen (p := ⟨b, o, none⟩) hl hn, World.frozen?_setCell]; exact hf o
section
variable {pb tb cap : Nat} {T : List Tok} {d : Int} {pf : PS -> Ex × PS} {sf : PS -> St × PS}
theorem choice_ok (hT : Toks T) (hX : ExOK pb tb cap T 207 (d + 1) pf) (hM : Mon T pf) (hS : StOK pb tb cap T 191 (d + 1) sf) (hMS : Mon T sf) (hd0 : 0 <= d) (hd1 : d <= 14) : StOK pb tb cap T 206 d (choiceSt T pf sf) := by
 intro w s h hg
 have hpl := h.lt
 have htl := h.tlt
 have h1 := (hM s hg).1
 have h2 := (mon_want hT (f := bs [116, 104, 101, 110]) (bs_ne _ (by simp)) h1).1
 have h3 := (hMS _ h2).1
 have hSt := fun w (hP : PW pb tb cap T w (want T (bs [116, 104, 101, 110]) (pf s).2)) => hS w _ hP h2
 have hEx := hX w s h hg
 cases hs : sees T (bs [101, 108, 115, 101]) (sf (want T (bs [116, 104, 101, 110]) (pf s).2)).2 with
 | true =>
  have hga := good_adv hT h3 hs (bs_ne _ (by simp))
  have HE : Hid (choiceSt T pf sf s = (.ite (pf s).1 (sf (want T (bs [116, 104, 101, 110]) (pf s).2)).1 (sf (adv (sf (want T (bs [116, 104, 101, 110]) (pf s).2)).2)).1, (sf (adv (sf (want T (bs [116, 104, 101, 110]) (pf s).2)).2)).2)) := by show _ = _; unfold choiceSt; rw [hs]; rfl
  generalize sf (want T (bs [116, 104, 101, 110]) (pf s).2) = r2 at *
  generalize pf s = r1 at *
  go_enter Tryz.func206, Tryz.ntmps206
  go_wp2_with (first
   | (go_at_call 207; refine hEx.mono ?_; rintro e w1 ⟨v1, rfl, hR1, hP1, hk1⟩; have hc1 := hR1.cells; have ht1 := run_store_one hR1.one; have hl1 := hP1.lt)
   | (go_at_call 144; refine (want_any (hP1.alloc _) h1 (bs [116, 104, 101, 110])).mono ?_; rintro e w2 ⟨rfl, hP2, hk2⟩)
   | (go_at_call 191; refine (hS _ _ hP4 hga).mono ?_; rintro e w5 ⟨v5, rfl, hR5, hP5, hk5⟩; have hc5 := hR5.cells; have ht5 := run_store_one hR5.one
      have y0 : w5.cell? ⟨w1.heap.size, 0, none⟩ = some v1 := by rw [hk5.cell (p := ⟨w1.heap.size, 0, none⟩) (lt_of_cell x0) (by show w1.heap.size ≠ pb; omega)]; exact x0
      have y1 : w5.cell? ⟨w1.heap.size, 1, none⟩ = some v3 := by rw [hk5.cell (p := ⟨w1.heap.size, 1, none⟩) (lt_of_cell x1) (by show w1.heap.size ≠ pb; omega)]; exact x1
      have y2 : w5.cell? ⟨w1.heap.size, 2, none⟩ = some .nilIface := by rw [hk5.cell (p := ⟨w1.heap.size, 2, none⟩) (lt_of_cell x2) (by show w1.heap.size ≠ pb; omega)]; exact x2
      have y3 : w5.frozen? ⟨w1.heap.size, 2, none⟩ = false := by rw [hk5.frozen (p := ⟨w1.heap.size, 2, none⟩) (lt_of_cell x2) (by show w1.heap.size ≠ pb; omega)]; exact x3 2)
   | (go_at_call 191; refine (hSt _ hP2).mono ?_; rintro e w3 ⟨v3, rfl, hR3, hP3, hk3⟩; have hc3 := hR3.cells; have ht3 := run_store_one hR3.one; have hk23 := hk2.trans hk3; obtain ⟨q0, q1, hs2⟩ := hk23.new hl1)
   | (go_at_call 165; refine (take_yes (hP3.setOther ⟨w1.heap.size, 1, none⟩ v3 (by show w1.heap.size ≠ pb; omega) (by show w1.heap.size ≠ tb; have := hP1.tlt; omega)) h3 (bs [101, 108, 115, 101]) hs).mono ?_; rintro e w4 ⟨rfl, hP4, hk4⟩
      obtain ⟨x0, x1, x2, x3⟩ := par_three (by omega) (by rw [q0]; rfl) (by rw [q0]; rfl) (by rw [q0]; rfl) q1 hk4))
  go_ret
  refine ⟨_, rfl, ?_⟩
  rw [HE.out]
  go_light
  have hw1 := hk1.size
  have hw2 : w1.heap.size + 1 <= w2.heap.size := by have := hk2.size; simp at this; omega
  have hw3 := hk3.size
  have hw4 : w3.heap.size <= w4.heap.size := by have := hk4.size; simp [World.setCell] at this; omega
  have hpQ : ∀ i, But w.heap.size w1.heap.size i -> i ≠ pb := fun i hi => by have := hi.1; omega
  have hbQ : ∀ i, But w.heap.size w1.heap.size i -> i ≠ w1.heap.size := fun i hi => hi.2
  have k3 : KeepQ (But w.heap.size w1.heap.size) w3 (w5.setCell ⟨w1.heap.size, 2, none⟩ v5) :=
   (((((KeepQ.refl (But w.heap.size w1.heap.size) w3).setCell ⟨w1.heap.size, 1, none⟩ v3 hbQ).trans (.of_par hk4 hpQ)).trans (.of_par hk5 hpQ)).setCell _ _ hbQ)
  have k1 : KeepQ (But w.heap.size w1.heap.size) w1 (w5.setCell ⟨w1.heap.size, 2, none⟩ v5) := (KeepQ.of_par (((Par.refl pb w1).alloc _).trans hk23) hpQ).trans k3
  have k5 : KeepQ (But w.heap.size w1.heap.size) w5 (w5.setCell ⟨w1.heap.size, 2, none⟩ v5) := (KeepQ.refl (But w.heap.size w1.heap.size) w5).setCell _ _ hbQ
  have toF : ∀ b, But w.heap.size w1.heap.size b -> b < (w5.setCell ⟨w1.heap.size, 2, none⟩ v5).heap.size -> From w.heap.size b := fun b hb _ => hb.1
  refine ⟨.ite (((hR1.weak (Q' := But w.heap.size w1.heap.size) fun b hb hl => ⟨hb, by omega⟩).keep k1).weak toF)
   (((hR3.weak (Q' := But w.heap.size w1.heap.size) fun b hb hl => ⟨by unfold From at hb; omega, by unfold From at hb; omega⟩).keep k3).weak toF)
   (((hR5.weak (Q' := But w.heap.size w1.heap.size) fun b hb hl => ⟨by unfold From at hb; omega, by unfold From at hb; omega⟩).keep k5).weak toF),
   hP5.setOther _ _ (by show w1.heap.size ≠ pb; omega) (by show w1.heap.size ≠ tb; have := hP1.tlt; omega), ?_⟩
  have p3 := ((hk1.alloc _).trans hk23).setNew (p := ⟨w1.heap.size, 1, none⟩) (by show w.heap.size <= w1.heap.size; omega) v3
  exact ((p3.trans hk4).trans hk5).setNew (by show w.heap.size <= w1.heap.size; omega) _
 | false =>
  have HE : Hid (choiceSt T pf sf s = (.ite (pf s).1 (sf (want T (bs [116, 104, 101, 110]) (pf s).2)).1 .nil, (sf (want T (bs [116, 104, 101, 110]) (pf s).2)).2)) := by show _ = _; unfold choiceSt; rw [hs]; rfl
  generalize sf (want T (bs [116, 104, 101, 110]) (pf s).2) = r2 at *
  generalize pf s = r1 at *
  go_enter Tryz.func206, Tryz.ntmps206
  go_wp2_with (first
   | (go_at_call 207; refine hEx.mono ?_; rintro e w1 ⟨v1, rfl, hR1, hP1, hk1⟩; have hc1 := hR1.cells; have ht1 := run_store_one hR1.one; have hl1 := hP1.lt)
   | (go_at_call 144; refine (want_any (hP1.alloc _) h1 (bs [116, 104, 101, 110])).mono ?_; rintro e w2 ⟨rfl, hP2, hk2⟩)
   | (go_at_call 191; refine (hSt _ hP2).mono ?_; rintro e w3 ⟨v3, rfl, hR3, hP3, hk3⟩; have hc3 := hR3.cells; have ht3 := run_store_one hR3.one; have hk23 := hk2.trans hk3; obtain ⟨q0, q1, hs2⟩ := hk23.new hl1)
   | (go_at_call 165; refine (take_no (hP3.setOther ⟨w1.heap.size, 1, none⟩ v3 (by show w1.heap.size ≠ pb; omega) (by show w1.heap.size ≠ tb; have := hP1.tlt; omega)) h3 (bs [101, 108, 115, 101]) hs).mono ?_; rintro e w4 ⟨rfl, hP4, hk4⟩
      obtain ⟨x0, x1, x2, x3⟩ := par_three (a0 := v1) (a2 := .nilIface) (by omega) (by rw [q0]; rfl) (by rw [q0]; rfl) (by rw [q0]; rfl) q1 hk4))
  go_ret
  refine ⟨_, rfl, ?_⟩
  rw [HE.out]
  go_light
  have hw1 := hk1.size
  have hw2 : w1.heap.size + 1 <= w2.heap.size := by have := hk2.size; simp at this; omega
  have hw3 := hk3.size
  have hpQ : ∀ i, But w.heap.size w1.heap.size i -> i ≠ pb := fun i hi => by have := hi.1; omega
  have hbQ : ∀ i, But w.heap.size w1.heap.size i -> i ≠ w1.heap.size := fun i hi => hi.2
  have k3 : KeepQ (But w.heap.size w1.heap.size) w3 w4 :=
   (((KeepQ.refl (But w.heap.size w1.heap.size) w3).setCell ⟨w1.heap.size, 1, none⟩ v3 hbQ).trans (.of_par hk4 hpQ))
  have k1 : KeepQ (But w.heap.size w1.heap.size) w1 w4 := (KeepQ.of_par (((Par.refl pb w1).alloc _).trans hk23) hpQ).trans k3
  have toF : ∀ b, But w.heap.size w1.heap.size b -> b < w4.heap.size -> From w.heap.size b := fun b hb _ => hb.1
  refine ⟨.ite (((hR1.weak (Q' := But w.heap.size w1.heap.size) fun b hb hl => ⟨hb, by omega⟩).keep k1).weak toF)
   (((hR3.weak (Q' := But w.heap.size w1.heap.size) fun b hb hl => ⟨by unfold From at hb; omega, by unfold From at hb; omega⟩).keep k3).weak toF) .nil, hP4, ?_⟩
  have p3 := ((hk1.alloc _).trans hk23).setNew (p := ⟨w1.heap.size, 1, none⟩) (by show w.heap.size <= w1.heap.size; omega) v3
  exact p3.trans hk4
end
def SAll (Q : Nat -> Prop) (w : World) (vs : List Value) (es : List St) : Prop := vs.length = es.length /\ ∀ (j : Nat) v e, vs[j]? = some v -> es[j]? = some e -> RSt Q w v e
theorem SAll.keep {Q : Nat -> Prop} {w w' : World} {vs : List Value} {es : List St} (h : SAll Q w vs es) (hk : KeepQ Q w w') : SAll Q w' vs es := ⟨h.1, fun j v e hv he => (h.2 j v e hv he).keep hk⟩
theorem SAll.weak {Q Q' : Nat -> Prop} {w : World} {vs : List Value} {es : List St} (h : SAll Q w vs es) (hq : ∀ b, Q b -> b < w.heap.size -> Q' b) : SAll Q' w vs es := ⟨h.1, fun j v e hv he => (h.2 j v e hv he).weak hq⟩
theorem SAll.snoc {Q : Nat -> Prop} {w : World} {vs : List Value} {es : List St} {v : Value} {e : St} (h : SAll Q w vs es) (hx : RSt Q w v e) : SAll Q w (vs ++ [v]) (es ++ [e]) := by
 refine ⟨by simp [h.1], fun j a b ha hb => ?_⟩
 by_cases hj : j < vs.length
 ·rw [List.getElem?_append_left hj] at ha
  rw [List.getElem?_append_left (by rw [<- h.1]; exact hj)] at hb
  exact h.2 j a b ha hb
 ·rw [List.getElem?_append_right (by omega)] at ha
  rw [List.getElem?_append_right (by rw [<- h.1]; omega)] at hb
  rw [h.1] at ha
  cases hk : j - es.length with
  | zero => rw [hk] at ha hb; simp at ha hb; subst ha hb; exact hx
  | succ m => rw [hk] at ha; simp at ha
theorem SAll.grow {pb lo : Nat} {u v' x : Value} {wr w3 w4 w5 : World} {e : TypeId} {n : Nat} {vs : List Value} {es : List St} {ex : St} (hpl : pb < lo) (hlo : lo <= wr.heap.size)
  (hall : SAll (Off lo u) wr vs es) (hown : wr.ownsRow lo e 1 u n vs) (hk3 : Par pb wr w3) (hk4 : Par pb w3 w4) (hx : RSt (From w3.heap.size) w4 x ex) (o : Obj)
  (hg : (w4.alloc o).grownBy w5 u.ownBlock) (hw : v'.ownBlock = u.ownBlock ∨ ∀ k, v'.ownBlock = some k -> (w4.alloc o).heap.size <= k) : SAll (Off lo v') w5 (vs ++ [x]) (es ++ [ex]) := by
 have ha : SAll (Off lo u) (w4.alloc o) vs es := hall.keep (keepOff_par ((hk3.trans hk4).alloc o) hpl)
 have hb : RSt (Off lo u) (w4.alloc o) x ex := (hx.weak (fun b hb _ => ⟨by have := hk3.size; unfold From at hb; omega, fun he => by have := (hown.lt b he).2; have := hk3.size; unfold From at hb; omega⟩)).keep (keepOff_par ((Par.refl pb w4).alloc o) hpl)
 have hc := ha.snoc hb
 have hd := hc.weak (Q' := fun b => Off lo u b /\ Off lo v' b) (fun b h1 h2 => ⟨h1, off_next hw b h1 h2⟩)
 exact (hd.keep ((keep_off hg).weak fun b h => h.1)).weak fun b h _ => h.2
def ListPost (pb tb cap : Nat) (T : List Tok) (r : List St × PS) (w : World) (e : Ending) (w' : World) : Prop :=
 ∃ v vs, e = .returned v /\ SliceV (From w.heap.size) w' v vs /\ SAll (From w.heap.size) w' vs r.1 /\ PW pb tb cap T w' r.2 /\ Par pb w w'
section
variable {pb tb cap : Nat} {T : List Tok} {w : World} {s : PS} {d : Int} {sf : PS -> St × PS}
theorem listLoop_stop {n : Nat} {l : List St} (h : sees T (bs [59]) (listOne T sf s).2 = false) : listLoop T sf (n + 1) l s = (l ++ (listOne T sf s).1, (listOne T sf s).2) := by
 rw [listLoop, h]; rfl
theorem listLoop_go {n : Nat} {l : List St} (h : sees T (bs [59]) (listOne T sf s).2 = true) : listLoop T sf (n + 1) l s = listLoop T sf n (l ++ (listOne T sf s).1) (adv (listOne T sf s).2) := by
 rw [listLoop, h]; rfl
theorem list_any (hT : Toks T) (hS : StOK pb tb cap T 191 d sf) (hM : Mon T sf) (h : PW pb tb cap T w s) (hg : Good T s) :
  Calls Tryz.prog 168 #[.pointer (some ⟨pb, 0, none⟩), .int .i64 d] w fun e w' => ListPost pb tb cap T (listOf T sf s) w e w' := by
 have hpl := h.lt
 have htl := h.tlt
 have hsz := h.size
 have hgp : 0 < T.length := by unfold Good at hg; omega
 obtain ⟨i0, hi, hz0, hz1, hz2⟩ := info_parts Tryz.infoStmt
 go_enter Tryz.func168, Tryz.ntmps168
 go_wp2
 go_loopw [5] (fun v wr => ∃ (s' : PS) (vs : List Value) (acc : List St) (n : Nat), wr.ownsRow w.heap.size 225 1 v vs.length vs /\ SAll (Off w.heap.size v) wr vs acc /\ PW pb tb cap T wr s' /\ Par pb w wr /\ Good T s' /\ T.length <= s'.next + n /\ acc.length <= s'.next /\ Hid (listLoop T sf n acc s' = listOf T sf s)) (fun _ wr => T.length - nextOf pb wr)
 case atStart => exact ⟨s, [], [], T.length, World.ownsRow_nil _ _ _ _, ⟨rfl, fun j v e hv => by simp at hv⟩, h, Par.refl _ _, hg, by omega, by simp, rfl⟩
 case round =>
  obtain ⟨s', vs, acc, n, hown, hall, hP, hk, hg2, hn2, hacc, HL⟩ := hrel
  have hnx := nextOf_eq hP
  have hks := hk.size
  have hg2' : s'.next < T.length := hg2
  obtain ⟨m, rfl⟩ : ∃ m, n = m + 1 := ⟨n - 1, by omega⟩
  have hvl := hall.1
  have hlt := hown.lt
  have h1 := sees_any hP hg2 (bs [59])
  cases hs1 : sees T (bs [59]) s' with
  | true =>
   have ho : listOne T sf s' = ([], s') := by unfold listOne; rw [hs1]; rfl
   have hga := good_adv hT hg2 hs1 (bs_ne _ (by simp))
   have HL2 : Hid (listLoop T sf m acc (adv s') = listOf T sf s) := by
    show _ = _; rw [<- HL.out, listLoop_go (by rw [ho]; exact hs1), ho]; simp
   rw [hs1] at h1
   have hadv : (adv s').next = s'.next + 1 := rfl
   go_wp2_with (first
    | (go_at_call 187; refine h1.mono ?_; rintro e w1 ⟨rfl, hb1⟩)
    | (go_at_call 165; refine (take_yes (hP.below hb1) hg2 (bs [59]) hs1).mono ?_; rintro e w2 ⟨rfl, hP2, hk2⟩))
   have hk12 := (Par.of_below (pb := pb) hb1).trans hk2
   go_roundw
   case rel => exact ⟨adv s', vs, acc, m, owns_par hown hk12 hpl, hall.keep (keepOff_par hk12 hpl), hP2, hk.trans hk12, hga, by omega, by omega, HL2⟩
   case measure =>
    rw [nextOf_eq hP2, hnx]
    omega
  | false =>
   rw [hs1] at h1
   cases hs2 : sees T (bs [101, 110, 100]) s' with
   | true =>
    have ho : listOne T sf s' = ([], s') := by unfold listOne; rw [hs2]; simp
    have HL2 : Hid (listOf T sf s = (acc, s')) := by
     show _ = _; rw [<- HL.out, listLoop_stop (by rw [ho]; exact hs1), ho]; simp
    have h2 := fun w1 (hb : Below wr.heap.size wr w1) => sees_any (hP.below hb) hg2 (bs [101, 110, 100])
    rw [hs2] at h2
    go_wp2_with (first
     | (go_at_call 187; refine (h2 _ hb1).mono ?_; rintro e w2 ⟨rfl, hb2⟩)
     | (go_at_call 187; refine h1.mono ?_; rintro e w1 ⟨rfl, hb1⟩)
     | (go_at_call 165; refine (take_no ((hP.below hb1).below hb2) hg2 (bs [59]) hs1).mono ?_; rintro e w3 ⟨rfl, hP3, hk3⟩))
    go_ret
    have hk12 := ((Par.of_below (pb := pb) hb1).trans (Par.of_below hb2)).trans hk3
    refine ⟨_, vs, rfl, sliceV_of_owns (owns_par hown hk12 hpl), ?_⟩
    rw [HL2.out]
    exact ⟨(hall.keep (keepOff_par hk12 hpl)).weak (fun b hb _ => hb.1), hP3, hk.trans hk12⟩
   | false =>
    have ho : listOne T sf s' = ([(sf s').1], (sf s').2) := by unfold listOne; rw [hs1, hs2]; simp
    have h2 := fun w1 (hb : Below wr.heap.size wr w1) => sees_any (hP.below hb) hg2 (bs [101, 110, 100])
    rw [hs2] at h2
    have hms := hM s' hg2
    have hmn := hms.2
    have hmg : (sf s').2.next < T.length := hms.1
    have hSs := fun w2 (hP2 : PW pb tb cap T w2 s') => hS w2 s' hP2 hg2
    cases hs3 : sees T (bs [59]) (sf s').2 with
    | true =>
     have hga := good_adv hT hms.1 hs3 (bs_ne _ (by simp))
     have hadv : (adv (sf s').2).next = (sf s').2.next + 1 := rfl
     have HL2 : Hid (listLoop T sf m (acc ++ [(sf s').1]) (adv (sf s').2) = listOf T sf s) := by
      show _ = _; rw [<- HL.out, listLoop_go (by rw [ho]; exact hs3), ho]
     clear HL ho
     go_wp2_with (first
      | (go_at_call 187; refine (h2 _ hb1).mono ?_; rintro e w2 ⟨rfl, hb2⟩; have hk12 := (Par.of_below (pb := pb) hb1).trans (Par.of_below hb2))
      | (go_at_call 187; refine h1.mono ?_; rintro e w1 ⟨rfl, hb1⟩)
      | (go_at_call 191; refine (hSs _ ((hP.below hb1).below hb2)).mono ?_; rintro e w4 ⟨v4, rfl, hR4, hP4, hk4⟩; have hc4 := hR4.cells; have ho4 := hR4.one)
      | (at_builtin; refine wpList_append_own2 rfl _ _ 115 rfl w.heap.size 225 i0 _ 1 16 Tryz.underlying115 hi hz0 hz1 hz2 rfl (by decide) _ _ _ rfl ((owns_par (owns_par hown hk12 hpl) hk4 hpl).alloc _) ⟨_, 0, none⟩ 1 1 [v4] rfl rfl (cell_one_new _ _ _) ?ah1 ?ah63 ?ahby ?ahbase ?ahh
         case ah1 => intro u hu; simp at hu; subst hu; exact ho4
         case ah63 => unfold maxLen; omega
         case ahby => omega
         case ahbase => have := hk12.size; have := hk4.size; simp; omega
         intro v5 w5 hown5 hgrow5 hwhere5
         have X : Aside (w5.ownsRow w.heap.size 225 1 v5 (vs.length + 1) (vs ++ [v4]) /\ (w4.alloc (.cells #[v4] 225)).grownBy w5 u5.ownBlock /\ (v5.ownBlock = u5.ownBlock ∨ ∀ k, v5.ownBlock = some k -> (w4.alloc (.cells #[v4] 225)).heap.size <= k)) := ⟨hown5, hgrow5, hwhere5⟩
         have hP5 : PW pb tb cap T w5 (sf s').2 := (hP4.alloc _).grown hgrow5 (fun k hk => (hlt k hk).1) hpl htl
         clear hown5 hgrow5 hwhere5)
      | (go_at_call 165; refine (take_yes hP5 hms.1 (bs [59]) hs3).mono ?_; rintro e w6 ⟨rfl, hP6, hk6⟩))
     have p5 := par_grown ((hk.trans (hk12.trans hk4)).alloc _) X.out.2.1 (fun k hk => (hlt k hk).1)
     go_roundw
     case rel =>
      exact ⟨adv (sf s').2, vs ++ [v4], acc ++ [(sf s').1], m, by rw [List.length_append]; exact owns_par X.out.1 hk6 hpl,
       (SAll.grow hpl hks hall hown hk12 hk4 hR4 _ X.out.2.1 X.out.2.2).keep (keepOff_par hk6 hpl), hP6, p5.trans hk6, hga, by omega, by rw [List.length_append]; simp; omega, HL2⟩
     case measure =>
      rw [nextOf_eq hP6, hnx]
      omega
    | false =>
     have HL2 : Hid (listOf T sf s = (acc ++ [(sf s').1], (sf s').2)) := by
      show _ = _; rw [<- HL.out, listLoop_stop (by rw [ho]; exact hs3), ho]
     clear HL ho
     go_wp2_with (first
      | (go_at_call 187; refine (h2 _ hb1).mono ?_; rintro e w2 ⟨rfl, hb2⟩; have hk12 := (Par.of_below (pb := pb) hb1).trans (Par.of_below hb2))
      | (go_at_call 187; refine h1.mono ?_; rintro e w1 ⟨rfl, hb1⟩)
      | (go_at_call 191; refine (hSs _ ((hP.below hb1).below hb2)).mono ?_; rintro e w4 ⟨v4, rfl, hR4, hP4, hk4⟩; have hc4 := hR4.cells; have ho4 := hR4.one)
      | (at_builtin; refine wpList_append_own2 rfl _ _ 115 rfl w.heap.size 225 i0 _ 1 16 Tryz.underlying115 hi hz0 hz1 hz2 rfl (by decide) _ _ _ rfl ((owns_par (owns_par hown hk12 hpl) hk4 hpl).alloc _) ⟨_, 0, none⟩ 1 1 [v4] rfl rfl (cell_one_new _ _ _) ?bh1 ?bh63 ?bhby ?bhbase ?bhh
         case bh1 => intro u hu; simp at hu; subst hu; exact ho4
         case bh63 => unfold maxLen; omega
         case bhby => omega
         case bhbase => have := hk12.size; have := hk4.size; simp; omega
         intro v5 w5 hown5 hgrow5 hwhere5
         have X : Aside (w5.ownsRow w.heap.size 225 1 v5 (vs.length + 1) (vs ++ [v4]) /\ (w4.alloc (.cells #[v4] 225)).grownBy w5 u5.ownBlock /\ (v5.ownBlock = u5.ownBlock ∨ ∀ k, v5.ownBlock = some k -> (w4.alloc (.cells #[v4] 225)).heap.size <= k)) := ⟨hown5, hgrow5, hwhere5⟩
         have hP5 : PW pb tb cap T w5 (sf s').2 := (hP4.alloc _).grown hgrow5 (fun k hk => (hlt k hk).1) hpl htl
         clear hown5 hgrow5 hwhere5)
      | (go_at_call 165; refine (take_no hP5 hms.1 (bs [59]) hs3).mono ?_; rintro e w6 ⟨rfl, hP6, hk6⟩))
     go_ret
     have p5 := par_grown ((hk.trans (hk12.trans hk4)).alloc _) X.out.2.1 (fun k hk => (hlt k hk).1)
     refine ⟨_, vs ++ [v4], rfl, sliceV_of_owns (by rw [List.length_append]; exact owns_par X.out.1 hk6 hpl), ?_⟩
     rw [HL2.out]
     exact ⟨((SAll.grow hpl hks hall hown hk12 hk4 hR4 _ X.out.2.1 X.out.2.2).keep (keepOff_par hk6 hpl)).weak (fun b hb _ => hb.1), hP6, p5.trans hk6⟩
end
section
variable {pb tb cap : Nat} {T : List Tok} {w : World} {s : PS} {d : Int} {k : Nat}
theorem stmt_deep (h : PW pb tb cap T w s) (hg : Good T s) (hd : 14 < d) :
  Calls Tryz.prog 191 #[.pointer (some ⟨pb, 0, none⟩), .int .i64 d] w fun e w' => StPost pb tb cap T (stmtD T 0 s) w e w' := by
 go_enter Tryz.func191, Tryz.ntmps191
 go_wp2_with (go_at_call 204; refine (tooDeep_yes h hg d hd).mono ?_; rintro e w1 ⟨rfl, hP1, hk1⟩)
 go_ret
 exact ⟨_, rfl, .nil, hP1, hk1⟩
theorem stmt_name (h : PW pb tb cap T w s) (hg : Good T s) (hd : d <= 14) (hm : kindIs T .name s = true) (hX : StOK pb tb cap T 205 d (namedSt T (exprD T k))) :
  Calls Tryz.prog 191 #[.pointer (some ⟨pb, 0, none⟩), .int .i64 d] w fun e w' => StPost pb tb cap T (stmtD T (k + 1) s) w e w' := by
 have HE : Hid (stmtD T (k + 1) s = namedSt T (exprD T k) s) := by show _ = _; rw [stmtD]; simp [hm]
 have hk' : (cur T s).kind.p = 1 := by have := kind_name (T := T) s; rw [hm] at this; simpa using this
 have hF0 := tokField0
 have hK := token_any h hg
 rw [hk'] at hK
 clear hm hk'
 go_enter Tryz.func191, Tryz.ntmps191
 go_wp2_with (first
  | (go_at_call 204; refine (tooDeep_no d hd _ pb).mono ?_; rintro e w0 ⟨rfl, h0⟩; obtain rfl := h0.symm)
  | (go_at_call 145; refine hK.mono ?_; rintro e w1 ⟨rfl, hb1⟩; have hP1 := h.below hb1)
  | (go_at_call 205; refine (hX _ _ hP1 hg).mono ?_; rintro e w3 ⟨v3, rfl, hR3, hP3, hk3⟩))
 go_ret
 refine ⟨_, rfl, ?_⟩
 rw [HE.out]
 have k0 := Par.of_below (pb := pb) hb1
 exact ⟨hR3.up k0.size, hP3, k0.trans hk3⟩
theorem stmt_if (hT : Toks T) (h : PW pb tb cap T w s) (hg : Good T s) (hd : d <= 14) (hm : kindIs T .name s = false)
  (hX : StOK pb tb cap T 206 d (choiceSt T (exprD T k) (stmtD T k))) (h1 : sees T (bs [105, 102]) s = true) :
  Calls Tryz.prog 191 #[.pointer (some ⟨pb, 0, none⟩), .int .i64 d] w fun e w' => StPost pb tb cap T (stmtD T (k + 1) s) w e w' := by
 have HE : Hid (stmtD T (k + 1) s = choiceSt T (exprD T k) (stmtD T k) (adv s)) := by show _ = _; rw [stmtD]; simp [hm, h1]
 have hk1 : ((cur T s).kind.p == 1) = false := by rw [kind_name]; exact hm
 have hF0 := tokField0
 have hK := token_any h hg
 have hpl := h.lt
 have hga := good_adv hT hg h1 (bs_ne _ (by simp))
 clear hm
 go_enter Tryz.func191, Tryz.ntmps191
 go_wp2_with (first
  | (go_at_call 204; refine (tooDeep_no d hd _ pb).mono ?_; rintro e w0 ⟨rfl, h0⟩; obtain rfl := h0.symm)
  | (go_at_call 145; refine hK.mono ?_; rintro e w1 ⟨rfl, hb1⟩; have hP1 := h.below hb1)
  | (go_at_call 206; refine (hX _ _ hT0 hga).mono ?_; rintro e w3 ⟨v3, rfl, hR3, hP3, hk3⟩)
  | (go_at_call 165; refine (take_yes hP1 hg (bs [105, 102]) h1).mono ?_; rintro e wt0 ⟨rfl, hT0, kT0⟩))
 go_ret
 refine ⟨_, rfl, ?_⟩
 rw [HE.out]
 have k0 := Par.of_below (pb := pb) hb1
 have kk := (k0.trans kT0)
 exact ⟨hR3.up kk.size, hP3, kk.trans hk3⟩
theorem stmt_while (hT : Toks T) (h : PW pb tb cap T w s) (hg : Good T s) (hd0 : 0 <= d) (hd : d <= 14) (hm : kindIs T .name s = false)
  (hX : ExOK pb tb cap T 207 (d + 1) (exprD T k)) (hM : Mon T (exprD T k)) (hS : StOK pb tb cap T 191 (d + 1) (stmtD T k)) (h1 : sees T (bs [105, 102]) s = false) (h2 : sees T (bs [119, 104, 105, 108, 101]) s = true) :
  Calls Tryz.prog 191 #[.pointer (some ⟨pb, 0, none⟩), .int .i64 d] w fun e w' => StPost pb tb cap T (stmtD T (k + 1) s) w e w' := by
 have HE : Hid (stmtD T (k + 1) s = (.loop (exprD T k (adv s)).1 (stmtD T k (want T (bs [100, 111]) (exprD T k (adv s)).2)).1, (stmtD T k (want T (bs [100, 111]) (exprD T k (adv s)).2)).2)) := by show _ = _; rw [stmtD]; simp [hm, h1, h2, whileSt]
 have hk1 : ((cur T s).kind.p == 1) = false := by rw [kind_name]; exact hm
 have hF0 := tokField0
 have hK := token_any h hg
 have hpl := h.lt
 have hga := good_adv hT hg h2 (bs_ne _ (by simp))
 have hg3 := (hM (adv s) hga).1
 have hg4 := (mon_want hT (f := bs [100, 111]) (bs_ne _ (by simp)) hg3).1
 clear hm
 go_enter Tryz.func191, Tryz.ntmps191
 go_wp2_with (first
  | (go_at_call 204; refine (tooDeep_no d hd _ pb).mono ?_; rintro e w0 ⟨rfl, h0⟩; obtain rfl := h0.symm)
  | (go_at_call 145; refine hK.mono ?_; rintro e w1 ⟨rfl, hb1⟩; have hP1 := h.below hb1)
  | (go_at_call 207; refine (hX _ _ hT1 hga).mono ?_; rintro e w3 ⟨v3, rfl, hR3, hP3, hk3⟩; have hc3 := hR3.cells)
  | (go_at_call 144; refine (want_any hP3 hg3 (bs [100, 111])).mono ?_; rintro e w4 ⟨rfl, hP4, hk4⟩)
  | (go_at_call 191; refine (hS _ _ hP4 hg4).mono ?_; rintro e w5 ⟨v5, rfl, hR5, hP5, hk5⟩; have hc5 := hR5.cells)
  | (go_at_call 165; refine (take_yes hT0 hg (bs [119, 104, 105, 108, 101]) h2).mono ?_; rintro e wt1 ⟨rfl, hT1, kT1⟩)
  | (go_at_call 165; refine (take_no hP1 hg (bs [105, 102]) h1).mono ?_; rintro e wt0 ⟨rfl, hT0, kT0⟩))
 go_ret
 refine ⟨_, rfl, ?_⟩
 rw [HE.out]
 have k0 := Par.of_below (pb := pb) hb1
 have kk := ((k0.trans kT0).trans kT1)
 exact ⟨.loop ((hR3.up kk.size).keep ((hk4.trans hk5).keepQ hpl)) (hR5.up ((kk.trans hk3).trans hk4).size), hP5, ((kk.trans hk3).trans hk4).trans hk5⟩
theorem stmt_begin (hT : Toks T) (h : PW pb tb cap T w s) (hg : Good T s) (hd0 : 0 <= d) (hd : d <= 14) (hm : kindIs T .name s = false)
  (hM : Mon T (stmtD T k)) (hS : StOK pb tb cap T 191 (d + 1) (stmtD T k)) (h1 : sees T (bs [105, 102]) s = false) (h2 : sees T (bs [119, 104, 105, 108, 101]) s = false) (h3 : sees T (bs [98, 101, 103, 105, 110]) s = true) :
  Calls Tryz.prog 191 #[.pointer (some ⟨pb, 0, none⟩), .int .i64 d] w fun e w' => StPost pb tb cap T (stmtD T (k + 1) s) w e w' := by
 have HE : Hid (stmtD T (k + 1) s = (.block (listOf T (stmtD T k) (adv s)).1, want T (bs [101, 110, 100]) (listOf T (stmtD T k) (adv s)).2)) := by show _ = _; rw [stmtD]; simp [hm, h1, h2, h3]
 have hk1 : ((cur T s).kind.p == 1) = false := by rw [kind_name]; exact hm
 have hF0 := tokField0
 have hK := token_any h hg
 have hpl := h.lt
 have hga := good_adv hT hg h3 (bs_ne _ (by simp))
 have hg3 := (mon_listOf hT hM (adv s) hga).1
 clear hm
 go_enter Tryz.func191, Tryz.ntmps191
 go_wp2_with (first
  | (go_at_call 204; refine (tooDeep_no d hd _ pb).mono ?_; rintro e w0 ⟨rfl, h0⟩; obtain rfl := h0.symm)
  | (go_at_call 145; refine hK.mono ?_; rintro e w1 ⟨rfl, hb1⟩; have hP1 := h.below hb1)
  | (go_at_call 168; refine (list_any hT hS hM hT2 hga).mono ?_; rintro e w3 ⟨v3, vs3, rfl, hS3, hA3, hP3, hk3⟩; have hc3 := hS3.cells)
  | (go_at_call 144; refine (want_any hP3 hg3 (bs [101, 110, 100])).mono ?_; rintro e w4 ⟨rfl, hP4, hk4⟩)
  | (go_at_call 165; refine (take_yes hT1 hg (bs [98, 101, 103, 105, 110]) h3).mono ?_; rintro e wt2 ⟨rfl, hT2, kT2⟩)
  | (go_at_call 165; refine (take_no hT0 hg (bs [119, 104, 105, 108, 101]) h2).mono ?_; rintro e wt1 ⟨rfl, hT1, kT1⟩)
  | (go_at_call 165; refine (take_no hP1 hg (bs [105, 102]) h1).mono ?_; rintro e wt0 ⟨rfl, hT0, kT0⟩))
 go_ret
 refine ⟨_, rfl, ?_⟩
 rw [HE.out]
 have k0 := Par.of_below (pb := pb) hb1
 have kk := (((k0.trans kT0).trans kT1).trans kT2)
 have hF : ∀ b, From wt2.heap.size b -> b < w3.heap.size -> From w.heap.size b := fun b hb _ => by unfold From at *; have := kk.size; omega
 have hA4 := (hA3.weak hF).keep (hk4.keepQ hpl)
 exact ⟨.block ((hS3.weak hF).keep (hk4.keepQ hpl)) hA4.1 hA4.2, hP4, (kk.trans hk3).trans hk4⟩
theorem stmt_write (hT : Toks T) (h : PW pb tb cap T w s) (hg : Good T s) (hd0 : 0 <= d) (hd : d <= 14) (hm : kindIs T .name s = false)
  (hX : ExOK pb tb cap T 207 (d + 1) (exprD T k)) (h1 : sees T (bs [105, 102]) s = false) (h2 : sees T (bs [119, 104, 105, 108, 101]) s = false) (h3 : sees T (bs [98, 101, 103, 105, 110]) s = false) (h4 : sees T (bs [119, 114, 105, 116, 101]) s = true) :
  Calls Tryz.prog 191 #[.pointer (some ⟨pb, 0, none⟩), .int .i64 d] w fun e w' => StPost pb tb cap T (stmtD T (k + 1) s) w e w' := by
 have HE : Hid (stmtD T (k + 1) s = (.write (exprD T k (adv s)).1, (exprD T k (adv s)).2)) := by show _ = _; rw [stmtD]; simp [hm, h1, h2, h3, h4]
 have hk1 : ((cur T s).kind.p == 1) = false := by rw [kind_name]; exact hm
 have hF0 := tokField0
 have hK := token_any h hg
 have hpl := h.lt
 have hga := good_adv hT hg h4 (bs_ne _ (by simp))
 clear hm
 go_enter Tryz.func191, Tryz.ntmps191
 go_wp2_with (first
  | (go_at_call 204; refine (tooDeep_no d hd _ pb).mono ?_; rintro e w0 ⟨rfl, h0⟩; obtain rfl := h0.symm)
  | (go_at_call 145; refine hK.mono ?_; rintro e w1 ⟨rfl, hb1⟩; have hP1 := h.below hb1)
  | (go_at_call 207; refine (hX _ _ hT3 hga).mono ?_; rintro e w3 ⟨v3, rfl, hR3, hP3, hk3⟩; have hc3 := hR3.cells)
  | (go_at_call 165; refine (take_yes hT2 hg (bs [119, 114, 105, 116, 101]) h4).mono ?_; rintro e wt3 ⟨rfl, hT3, kT3⟩)
  | (go_at_call 165; refine (take_no hT1 hg (bs [98, 101, 103, 105, 110]) h3).mono ?_; rintro e wt2 ⟨rfl, hT2, kT2⟩)
  | (go_at_call 165; refine (take_no hT0 hg (bs [119, 104, 105, 108, 101]) h2).mono ?_; rintro e wt1 ⟨rfl, hT1, kT1⟩)
  | (go_at_call 165; refine (take_no hP1 hg (bs [105, 102]) h1).mono ?_; rintro e wt0 ⟨rfl, hT0, kT0⟩))
 go_ret
 refine ⟨_, rfl, ?_⟩
 rw [HE.out]
 have k0 := Par.of_below (pb := pb) hb1
 have kk := ((((k0.trans kT0).trans kT1).trans kT2).trans kT3)
 exact ⟨.write (hR3.up kk.size), hP3, kk.trans hk3⟩
theorem stmt_read (hT : Toks T) (h : PW pb tb cap T w s) (hg : Good T s) (hd : d <= 14) (hm : kindIs T .name s = false)
   (h1 : sees T (bs [105, 102]) s = false) (h2 : sees T (bs [119, 104, 105, 108, 101]) s = false) (h3 : sees T (bs [98, 101, 103, 105, 110]) s = false) (h4 : sees T (bs [119, 114, 105, 116, 101]) s = false) (h5 : sees T (bs [114, 101, 97, 100]) s = true) :
  Calls Tryz.prog 191 #[.pointer (some ⟨pb, 0, none⟩), .int .i64 d] w fun e w' => StPost pb tb cap T (stmtD T (k + 1) s) w e w' := by
 have HE : Hid (stmtD T (k + 1) s = (.read (nameP T (adv s)).1.1 (nameP T (adv s)).1.2, (nameP T (adv s)).2)) := by show _ = _; rw [stmtD]; simp [hm, h1, h2, h3, h4, h5]
 have hk1 : ((cur T s).kind.p == 1) = false := by rw [kind_name]; exact hm
 have hF0 := tokField0
 have hK := token_any h hg
 have hpl := h.lt
 have hga := good_adv hT hg h5 (bs_ne _ (by simp))
 clear hm
 go_enter Tryz.func191, Tryz.ntmps191
 go_wp2_with (first
  | (go_at_call 204; refine (tooDeep_no d hd _ pb).mono ?_; rintro e w0 ⟨rfl, h0⟩; obtain rfl := h0.symm)
  | (go_at_call 145; refine hK.mono ?_; rintro e w1 ⟨rfl, hb1⟩; have hP1 := h.below hb1)
  | (go_at_call 189; refine (name_any hT4 hga).mono ?_; rintro e w3 ⟨rfl, hP3, hk3⟩)
  | (go_at_call 165; refine (take_yes hT3 hg (bs [114, 101, 97, 100]) h5).mono ?_; rintro e wt4 ⟨rfl, hT4, kT4⟩)
  | (go_at_call 165; refine (take_no hT2 hg (bs [119, 114, 105, 116, 101]) h4).mono ?_; rintro e wt3 ⟨rfl, hT3, kT3⟩)
  | (go_at_call 165; refine (take_no hT1 hg (bs [98, 101, 103, 105, 110]) h3).mono ?_; rintro e wt2 ⟨rfl, hT2, kT2⟩)
  | (go_at_call 165; refine (take_no hT0 hg (bs [119, 104, 105, 108, 101]) h2).mono ?_; rintro e wt1 ⟨rfl, hT1, kT1⟩)
  | (go_at_call 165; refine (take_no hP1 hg (bs [105, 102]) h1).mono ?_; rintro e wt0 ⟨rfl, hT0, kT0⟩))
 go_ret
 refine ⟨_, rfl, ?_⟩
 rw [HE.out]
 have k0 := Par.of_below (pb := pb) hb1
 have kk := (((((k0.trans kT0).trans kT1).trans kT2).trans kT3).trans kT4)
 exact ⟨.read _ _, hP3, kk.trans hk3⟩
theorem stmt_bad (h : PW pb tb cap T w s) (hg : Good T s) (hd : d <= 14) (hm : kindIs T .name s = false)
   (h1 : sees T (bs [105, 102]) s = false) (h2 : sees T (bs [119, 104, 105, 108, 101]) s = false) (h3 : sees T (bs [98, 101, 103, 105, 110]) s = false) (h4 : sees T (bs [119, 114, 105, 116, 101]) s = false) (h5 : sees T (bs [114, 101, 97, 100]) s = false) :
  Calls Tryz.prog 191 #[.pointer (some ⟨pb, 0, none⟩), .int .i64 d] w fun e w' => StPost pb tb cap T (stmtD T (k + 1) s) w e w' := by
 have HE : Hid (stmtD T (k + 1) s = (.nil, fails T 4 s)) := by show _ = _; rw [stmtD]; simp [hm, h1, h2, h3, h4, h5]
 have hk1 : ((cur T s).kind.p == 1) = false := by rw [kind_name]; exact hm
 have hF0 := tokField0
 have hK := token_any h hg
 have hpl := h.lt
 clear hm
 go_enter Tryz.func191, Tryz.ntmps191
 go_wp2_with (first
  | (go_at_call 204; refine (tooDeep_no d hd _ pb).mono ?_; rintro e w0 ⟨rfl, h0⟩; obtain rfl := h0.symm)
  | (go_at_call 145; refine hK.mono ?_; rintro e w1 ⟨rfl, hb1⟩; have hP1 := h.below hb1)
  | (go_at_call 146; refine (fail_any hT4 hg 4).mono ?_; rintro e w3 ⟨rfl, hP3, hk3⟩)
  | (go_at_call 165; refine (take_no hT3 hg (bs [114, 101, 97, 100]) h5).mono ?_; rintro e wt4 ⟨rfl, hT4, kT4⟩)
  | (go_at_call 165; refine (take_no hT2 hg (bs [119, 114, 105, 116, 101]) h4).mono ?_; rintro e wt3 ⟨rfl, hT3, kT3⟩)
  | (go_at_call 165; refine (take_no hT1 hg (bs [98, 101, 103, 105, 110]) h3).mono ?_; rintro e wt2 ⟨rfl, hT2, kT2⟩)
  | (go_at_call 165; refine (take_no hT0 hg (bs [119, 104, 105, 108, 101]) h2).mono ?_; rintro e wt1 ⟨rfl, hT1, kT1⟩)
  | (go_at_call 165; refine (take_no hP1 hg (bs [105, 102]) h1).mono ?_; rintro e wt0 ⟨rfl, hT0, kT0⟩))
 go_ret
 refine ⟨_, rfl, ?_⟩
 rw [HE.out]
 have k0 := Par.of_below (pb := pb) hb1
 have kk := (((((k0.trans kT0).trans kT1).trans kT2).trans kT3).trans kT4)
 exact ⟨.nil, hP3, kk.trans hk3⟩
theorem stmt_ok (hT : Toks T) : ∀ (k : Nat) (d : Int), d + k = 15 -> 0 <= d -> StOK pb tb cap T 191 d (stmtD T k)
 | 0, d, hd, _ => fun _ _ h hg => stmt_deep h hg (by omega)
 | k + 1, d, hd, h0 => fun w s h hg => by
  have ih := stmt_ok hT k (d + 1) (by omega) (by omega)
  have hMS := mon_stmtD hT k
  have hX : ExOK pb tb cap T 207 (d + 1) (exprD T k) := exprD_ok hT k (d + 1) (by omega) (by omega)
  have hMX := mon_exprD hT k
  cases hm : kindIs T .name s with
  | true => exact stmt_name h hg (by omega) hm (namedSt_ok hT hX hMX h0 (by omega))
  | false =>
   cases h1 : sees T (bs [105, 102]) s with
   | true => exact stmt_if hT h hg (by omega) hm (choice_ok hT hX hMX ih hMS h0 (by omega)) h1
   | false =>
    cases h2 : sees T (bs [119, 104, 105, 108, 101]) s with
    | true => exact stmt_while hT h hg h0 (by omega) hm hX hMX ih h1 h2
    | false =>
     cases h3 : sees T (bs [98, 101, 103, 105, 110]) s with
     | true => exact stmt_begin hT h hg h0 (by omega) hm hMS ih h1 h2 h3
     | false =>
      cases h4 : sees T (bs [119, 114, 105, 116, 101]) s with
      | true => exact stmt_write hT h hg h0 (by omega) hm hX h1 h2 h3 h4
      | false =>
       cases h5 : sees T (bs [114, 101, 97, 100]) s with
       | true => exact stmt_read hT h hg (by omega) hm h1 h2 h3 h4 h5
       | false => exact stmt_bad h hg (by omega) hm h1 h2 h3 h4 h5
end
end Go.Proofs.YtklobognaldjpaaGreat
