/- The maker of code: procs and funcs. The maker of code: funcs; whatever is declared. The program's look at names: a routine. -/
import Derived.Test.YtklobognaldjpaaGreatCCm12
import Derived.Test.YtklobognaldjpaaGreatCCm15
import Derived.Test.YtklobognaldjpaaGreatCLk9
import Derived.Deep.CutRange
set_option maxRecDepth 1000000
set_option maxHeartbeats 4000000
namespace Go.Proofs.YtklobognaldjpaaGreat
open Go.RowKit
def mkOf (c : CG) : Mkr := ⟨c.words.map Int.ofNat, c.places, ceTop c⟩
section
variable {base mb gm ng nl : Nat} {lm : Option Nat} {w w' w1 : World} {M : Mkr} {v v' : Value} {Q : Nat -> Prop}
theorem Mv.keeps {k : Nat} (hk : Mv mb v v' w w') (hkm : k ≠ mb) (hkv : v.ownBlock ≠ some k) (hlt : k < w.heap.size) : (∀ o, w'.cell? ⟨k, o, none⟩ = w.cell? ⟨k, o, none⟩) /\ v'.ownBlock ≠ some k /\ k < w'.heap.size := by
 refine ⟨fun o => hk.1.cell hlt (by rintro (e | e); exact hkm e; exact hkv e) o, fun e => ?_, Nat.lt_of_lt_of_le hlt hk.1.size⟩
 rcases hk.2 with h2 | h2
 ·exact hkv (h2 ▸ e)
 ·have := h2 k e; omega
theorem MK.turn {M' : Mkr} {lm' : Option Nat} {o : Nat} {u : Value} (h : MK base mb gm ng nl lm w M v) (ho : o = 3 ∨ o = 4) (h3 : o = 3 -> u = .map lm') (h3' : o = 4 -> lm' = lm) (h4 : o = 4 -> u = .string M'.E.res) (h4' : o = 3 -> M'.E.res = M.E.res)
  (hw : M'.words = M.words) (hp : M'.places = M.places) (hg : M'.E.g = M.E.g) (hl : ∀ b, lm' = some b -> lm = some b /\ M'.E.l = M.E.l /\ M'.E.n = M.E.n) (hn : lm' = none -> (∀ n, M'.E.l n = none) /\ M'.E.n = 0) :
  MK base mb gm ng nl lm' (w.setCell ⟨mb, o, none⟩ u) M' v /\ Fr (fun b => b = mb ∨ b = gm) w (w.setCell ⟨mb, o, none⟩ u) := by
 have hbs : ∀ b, b ≠ mb -> (w.setCell ⟨mb, o, none⟩ u).heap[b]? = w.heap[b]? := fun b hb => Below.heap_setCell _ _ _ _ hb
 have es : ∀ k, k ≠ o -> (w.setCell ⟨mb, o, none⟩ u).cell? ⟨mb, k, none⟩ = w.cell? ⟨mb, k, none⟩ := fun k hk => World.cell?_setCell_other _ _ _ _ (by intro e; cases e; exact hk rfl)
 refine ⟨⟨by rw [es _ (by omega)]; exact h.wd, by rw [es _ (by omega), hp]; exact h.pl, by rw [es _ (by omega)]; exact h.gl, ?_, ?_, fun k => by rw [World.frozen?_setCell]; exact h.frz k, ?_,
  by rw [hg]; exact h.gmap.block (hbs gm h.gne), fun b hb => ?_, hn, h.mlt, by have := h.bas; simp [World.setCell]; omega, h.gne, fun b hb => h.lne b (hl b hb).1⟩, ⟨rfl, rfl, rfl, by simp [World.setCell], fun b _ hn => hbs b (fun e => hn (.inl e))⟩⟩
 ·rcases ho with e | e
  ·rw [e, h3 e]; exact World.cell?_setCell_same _ _ _ h.lo
  ·rw [es _ (by omega), h3' e]; exact h.lo
 ·rcases ho with e | e
  ·rw [es _ (by omega), h4' e]; exact h.rs
  ·rw [e, h4 e]; exact World.cell?_setCell_same _ _ _ h.rs
 ·have hr := h.row
  rw [hw]
  obtain ⟨h1, h2⟩ := h.own
  refine ⟨h1, ?_⟩
  rcases h2 with h2 | ⟨g, cap, cur, hv, hbk, hh, r⟩
  ·exact .inl h2
  ·exact .inr ⟨g, cap, cur, hv, hbk, by rw [hbs g (hr g (by rw [hv]; rfl)).2.2.1]; exact hh, r⟩
 ·obtain ⟨e1, e2, e3⟩ := hl b hb
  rw [e2, e3]
  exact (h.lmap b e1).block (hbs b (h.lne b e1).1)
def GF (base mb gm : Nat) (w w' : World) : Prop := Fr (fun b => b = mb ∨ b = gm ∨ base <= b) w w'
theorem GF.of_mv (h : MK base mb gm ng nl lm w M v) (hk : Mv mb v v' w w') : GF base mb gm w w' := hk.1.weak fun b _ e => e.elim .inl fun e2 => .inr (.inr (h.row b e2).1)
theorem GF.of_fr (hk : Fr (fun b => b = mb ∨ b = gm) w w') : GF base mb gm w w' := hk.weak fun _ _ e => e.elim .inl fun e2 => .inr (.inl e2)
theorem GF.of_below (hk : Below w.heap.size w w') : GF base mb gm w w' := Fr.of_below hk
theorem GF.trans {a b c : World} (h : GF base mb gm a b) (k : GF base mb gm b c) : GF base mb gm a c := Fr.trans h k
theorem GF.keepQ (h : GF base mb gm w w') (hQ : ∀ b, Q b -> b < base /\ b ≠ mb /\ b ≠ gm) : KeepQ Q w w' := Fr.keepQ h fun b hb e => by
 have := hQ b hb
 omega
def GPo (base mb gm ng : Nat) (c : CG) (w : World) (e : Ending) (w' : World) : Prop :=
 e = .returned (.tuple #[]) /\ ∃ v' nl', MK base mb gm ng nl' none w' (mkOf c) v' /\ GF base mb gm w w'
theorem ceOf_eq (f : Bool) (g : ByteArray -> Nat × Nat) (r : Ro) : ceOf f g r = ⟨g, nmL (r.params ++ r.locals), r.params.length + r.locals.length, if f then r.name.1 else ⟨#[]⟩⟩ := by
 have e : r.cells.length = r.params.length + r.locals.length := by unfold Ro.cells; simp
 unfold ceOf
 rw [e]
 rfl
theorem proc_any {c : CG} (h : MK base mb gm ng nl none w (mkOf c) v) (r : Ro) {vp vl vb : Value} {vs : List Value} (hp : SliceN Q w vp r.params) (hl : SliceN Q w vl r.locals) (hb : SliceV Q w vb vs) (hA : SAll Q w vs r.body) (hQ : ∀ b, Q b -> b < base /\ b ≠ mb /\ b ≠ gm) (hd : DistN (r.params ++ r.locals))
  (hW : WhRo r) (hng : ng < maxLen) (hlen : r.params.length + r.locals.length <= 1000) (hbig : (cGl c (.proc r)).words.length <= 1000000) :
  Calls Tryz.prog 130 #[.pointer (some ⟨mb, 0, none⟩), .agg #[.string r.name.1, .int .i64 r.name.2, vp, vl, vb]] w (GPo base mb gm (ng + 1) (cGl c (.proc r)) w) := by
 have hlt := h.lt
 have hgt := h.gmap.lt
 obtain ⟨pa, pc, rfl⟩ := hp.len
 obtain ⟨la, lc, rfl⟩ := hl.len
 obtain ⟨ba, bc, rfl⟩ := hb.len
 have k1 : ∀ A, Below w.heap.size w (w.alloc A) := fun A => (Below.refl _ _).alloc (Nat.le_refl _) _
 have hQ2 : ∀ b, Q b -> b < base /\ b ≠ mb := fun b hb => ⟨(hQ b hb).1, (hQ b hb).2.1⟩
 have kq : ∀ A, KeepQ Q w (w.alloc A) := fun A => (GF.of_below (base := base) (mb := mb) (gm := gm) (k1 A)).keepQ hQ
 have hwl : (mkOf c).words.length = c.words.length := by unfold mkOf; simp
 have hcl : (cGl c (.proc r)).words = c.words ++ [25, r.locals.length] ++ cSts (ceOf false (putG c.g r.name.1 (c.words.length, 0)) r) (c.words.length + 2) r.body ++ [26] := rfl
 rw [hcl] at hbig
 simp only [List.length_append, List.length_cons, List.length_nil] at hbig
 have HB := fun A => begin_any (ba := ba) (bn := vs.length) (bc := bc) (h.below (k1 A)) r (hp.keep (kq A)) (hl.keep (kq A)) (fun b hb => ⟨(hQ b hb).2.1, (hQ b hb).2.2⟩) hd (nm_size hW.name) (fun x hx => by
  rcases List.mem_append.1 hx with h1 | h1
  ·exact nm_size (hW.params x h1)
  ·exact nm_size (hW.locals x h1)) hng hlen
 generalize hM1 : (⟨(mkOf c).words, (mkOf c).places, ⟨putG (mkOf c).E.g r.name.1 ((mkOf c).words.length, 0), nmL (r.params ++ r.locals), r.params.length + r.locals.length, (mkOf c).E.res⟩⟩ : Mkr) = M1 at HB
 have hE1 : M1.E = ceOf false (putG c.g r.name.1 (c.words.length, 0)) r := by rw [<- hM1, ceOf_eq]; show _ = _; rw [hwl]; rfl
 have hw1 : M1.words = c.words.map Int.ofNat := by rw [<- hM1]; rfl
 have hp1 : M1.places = c.places := by rw [<- hM1]; rfl
 have hl1 : M1.words.length = c.words.length := by rw [hw1]; simp
 have hl2 : (M1.more [25, (r.locals.length : Int)]).words.length = c.words.length + 2 := by rw [more_len, hl1]; rfl
 have L1 := fun W V lb nl' (hM : MK base mb gm (ng + 1) nl' (some lb) W M1 V) => lay0 hM [25, (r.locals.length : Int)] 3 (by rw [hl1]; simp; omega)
 have HX : ∀ W V lb nl', MK base mb gm (ng + 1) nl' (some lb) W (M1.more [25, (r.locals.length : Int)]) V -> GF base mb gm w W -> Calls Tryz.prog 100 #[.pointer (some ⟨mb, 0, none⟩), .slice ba vs.length bc] W (MPost base mb gm (ng + 1) nl' (some lb) ((M1.more [25, (r.locals.length : Int)]).more ((cSts (ceOf false (putG c.g r.name.1 (c.words.length, 0)) r) (c.words.length + 2) r.body).map Int.ofNat)) V W) := fun W V lb nl' hM hk => by
  have := sl_any (E := ceOf false (putG c.g r.name.1 (c.words.length, 0)) r) r.body Q W (.slice ba vs.length bc) vs _ V hM hE1 (hb.keep (hk.keepQ hQ)) (hA.keep (hk.keepQ hQ)) hQ2 hW.body.1 hW.body.2 (by rw [hl2]; omega)
  rw [hl2] at this
  exact this
 have L2 := fun W V lb nl' (hM : MK base mb gm (ng + 1) nl' (some lb) W ((M1.more [25, (r.locals.length : Int)]).more ((cSts (ceOf false (putG c.g r.name.1 (c.words.length, 0)) r) (c.words.length + 2) r.body).map Int.ofNat)) V) => lay0 hM [26] 3 (by rw [more_len, hl2, List.length_map]; simp; omega)
 have HF : ∀ W V lb nl', MK base mb gm (ng + 1) nl' (some lb) W (((M1.more [25, (r.locals.length : Int)]).more ((cSts (ceOf false (putG c.g r.name.1 (c.words.length, 0)) r) (c.words.length + 2) r.body).map Int.ofNat)).more [26]) V -> MK base mb gm (ng + 1) nl' none (W.setCell ⟨mb, 3, none⟩ (.map none)) (mkOf (cGl c (.proc r))) V /\ Fr (fun b => b = mb ∨ b = gm) W (W.setCell ⟨mb, 3, none⟩ (.map none)) := fun W V lb nl' hM =>
  hM.turn (M' := mkOf (cGl c (.proc r))) (lm' := none) (.inl rfl) (fun _ => rfl) (fun e => by cases e) (fun e => by cases e) (fun _ => by rw [more_E, more_E, more_E, hE1]; rfl)
   (by rw [more_more, more_more]; show (cGl c (.proc r)).words.map Int.ofNat = M1.words ++ _; rw [hcl, hw1]; simp) (by show c.places = M1.places; rw [hp1]) (by rw [more_E, more_E, more_E, hE1]; rfl) (fun b hb => by cases hb) (fun _ => ⟨fun _ => rfl, rfl⟩)
 clear hM1 hE1 hw1 hp1 hl1 hl2 hbig hcl hwl hd hp hl hb hA hW
 generalize ((M1.more [25, (r.locals.length : Int)]).more ((cSts (ceOf false (putG c.g r.name.1 (c.words.length, 0)) r) (c.words.length + 2) r.body).map Int.ofNat)).more [26] = M4 at *
 generalize (M1.more [25, (r.locals.length : Int)]).more ((cSts (ceOf false (putG c.g r.name.1 (c.words.length, 0)) r) (c.words.length + 2) r.body).map Int.ofNat) = M3 at *
 generalize M1.more [25, (r.locals.length : Int)] = M2 at *
 unfold MPost at HX
 have hvb : v.ownBlock ≠ some w.heap.size := fun e => by have := (h.row _ e).2.1; omega
 generalize hAe : Obj.cells #[.string r.name.1, .int .i64 r.name.2, .slice pa r.params.length pc, .slice la r.locals.length lc, .slice ba vs.length bc] 220 = A
 have q0 : ∀ o, (w.alloc A).cell? ⟨w.heap.size, o, none⟩ = #[Value.string r.name.1, .int .i64 r.name.2, .slice pa r.params.length pc, .slice la r.locals.length lc, .slice ba vs.length bc][o]? := fun o => by rw [<- hAe]; exact World.cell?_alloc_new w _ _ o
 have hszA : w.heap.size < (w.alloc A).heap.size := by simp
 have HG : Hid (GF base mb gm w (w.alloc A)) := GF.of_below (k1 A)
 go_enter Tryz.func130, Tryz.ntmps130
 go_wp2_with (first
  | (go_at_call 101; have _q := hM3; refine (L2 _ _ _ _ hM3).mono ?_; rintro e w4 ⟨rfl, v4, hM4, hv4⟩; have hc3 := hM4.lo; have hz3 := hM4.frz 3; have HF4 := HF _ _ _ _ hM4; have HF5 : Hid _ := HF4; clear HF4; have HG4 : Hid (GF base mb gm w w4) := HG3.out.trans (GF.of_mv hM3 hv4))
  | (go_at_call 100; refine (HX _ _ _ _ hM2 HG2.out).mono ?_; rintro e w3 ⟨rfl, v3, hM3, hv3⟩; have HG3 : Hid (GF base mb gm w w3) := HG2.out.trans (GF.of_mv hM2 hv3))
  | (go_at_call 101; refine (L1 _ _ _ _ hM1).mono ?_; rintro e w2 ⟨rfl, v2, hM2, hv2⟩; obtain ⟨hq2, _, _⟩ := hv2.keeps (k := w.heap.size) (by omega) hvb hl1; have q24 := (hq2 4).trans q14; have HG2 : Hid (GF base mb gm w w2) := HG1.out.trans (GF.of_mv hM1 hv2); clear hq2)
  | (go_at_call 153; refine (HB _).mono ?_; rintro e w1 ⟨rfl, lb, nl', hM1, hF1⟩; have q13 := (hF1.cell hszA (by omega) 3).trans (q0 3); have q14 := (hF1.cell hszA (by omega) 4).trans (q0 4); have hl1 : w.heap.size < w1.heap.size := Nat.lt_of_lt_of_le hszA hF1.size; have HG1 : Hid (GF base mb gm w w1) := HG.out.trans (GF.of_fr hF1)))
 go_end0
 exact ⟨rfl, v4, _, HF5.out.1, HG4.out.trans (GF.of_fr HF5.out.2)⟩
end
section
variable {base mb gm ng nl : Nat} {lm : Option Nat} {w w' w1 : World} {M : Mkr} {v v' : Value} {Q : Nat -> Prop}
theorem func_any {c : CG} (h : MK base mb gm ng nl none w (mkOf c) v) (r : Ro) {vp vl vb : Value} {vs : List Value} (hp : SliceN Q w vp r.params) (hl : SliceN Q w vl r.locals) (hb : SliceV Q w vb vs) (hA : SAll Q w vs r.body) (hQ : ∀ b, Q b -> b < base /\ b ≠ mb /\ b ≠ gm) (hd : DistN (r.params ++ r.locals))
  (hW : WhRo r) (hng : ng < maxLen) (hlen : r.params.length + r.locals.length <= 1000) (hbig : (cGl c (.func r)).words.length <= 1000000) :
  Calls Tryz.prog 131 #[.pointer (some ⟨mb, 0, none⟩), .agg #[.string r.name.1, .int .i64 r.name.2, vp, vl, vb]] w (GPo base mb gm (ng + 1) (cGl c (.func r)) w) := by
 have hlt := h.lt
 have hgt := h.gmap.lt
 obtain ⟨pa, pc, rfl⟩ := hp.len
 obtain ⟨la, lc, rfl⟩ := hl.len
 obtain ⟨ba, bc, rfl⟩ := hb.len
 have k1 : ∀ A, Below w.heap.size w (w.alloc A) := fun A => (Below.refl _ _).alloc (Nat.le_refl _) _
 have hQ2 : ∀ b, Q b -> b < base /\ b ≠ mb := fun b hb => ⟨(hQ b hb).1, (hQ b hb).2.1⟩
 have kq : ∀ A, KeepQ Q w (w.alloc A) := fun A => (GF.of_below (base := base) (mb := mb) (gm := gm) (k1 A)).keepQ hQ
 have hwl : (mkOf c).words.length = c.words.length := by unfold mkOf; simp
 have hcn : r.cells.length = r.params.length + r.locals.length := by unfold Ro.cells; simp
 have hcl : (cGl c (.func r)).words = c.words ++ [1] ++ [25, r.locals.length + 1] ++ cSts (ceOf true (putG c.g r.name.1 (c.words.length, 0)) r) (c.words.length + 3) r.body ++ [27, r.cells.length] := rfl
 rw [hcl] at hbig
 simp only [List.length_append, List.length_cons, List.length_nil] at hbig
 have HB := fun A => begin_any (ba := ba) (bn := vs.length) (bc := bc) (h.below (k1 A)) r (hp.keep (kq A)) (hl.keep (kq A)) (fun b hb => ⟨(hQ b hb).2.1, (hQ b hb).2.2⟩) hd (nm_size hW.name) (fun x hx => by
  rcases List.mem_append.1 hx with h1 | h1
  ·exact nm_size (hW.params x h1)
  ·exact nm_size (hW.locals x h1)) hng hlen
 have HR : ∀ W V lb nl', MK base mb gm (ng + 1) nl' (some lb) W ⟨(mkOf c).words, (mkOf c).places, ⟨putG (mkOf c).E.g r.name.1 ((mkOf c).words.length, 0), nmL (r.params ++ r.locals), r.params.length + r.locals.length, (mkOf c).E.res⟩⟩ V ->
   MK base mb gm (ng + 1) nl' (some lb) (W.setCell ⟨mb, 4, none⟩ (.string r.name.1)) ⟨c.words.map Int.ofNat, c.places, ceOf true (putG c.g r.name.1 (c.words.length, 0)) r⟩ V /\ Fr (fun b => b = mb ∨ b = gm) W (W.setCell ⟨mb, 4, none⟩ (.string r.name.1)) := fun W V lb nl' hM =>
  hM.turn (M' := ⟨c.words.map Int.ofNat, c.places, ceOf true (putG c.g r.name.1 (c.words.length, 0)) r⟩) (lm' := some lb) (.inr rfl) (fun e => by cases e) (fun _ => rfl) (fun _ => rfl) (fun e => by cases e) rfl rfl (by rw [hwl]; rfl) (fun b hb => ⟨hb, by rw [ceOf_eq], by rw [ceOf_eq]⟩) (fun e => by cases e)
 generalize (⟨(mkOf c).words, (mkOf c).places, ⟨putG (mkOf c).E.g r.name.1 ((mkOf c).words.length, 0), nmL (r.params ++ r.locals), r.params.length + r.locals.length, (mkOf c).E.res⟩⟩ : Mkr) = M0 at HB HR
 generalize hM1 : (⟨c.words.map Int.ofNat, c.places, ceOf true (putG c.g r.name.1 (c.words.length, 0)) r⟩ : Mkr) = M1 at HR
 have hE1 : M1.E = ceOf true (putG c.g r.name.1 (c.words.length, 0)) r := by rw [<- hM1]
 have hw1 : M1.words = c.words.map Int.ofNat := by rw [<- hM1]
 have hp1 : M1.places = c.places := by rw [<- hM1]
 have hl1 : M1.words.length = c.words.length := by rw [hw1]; simp
 have hl2 : (M1.more [1]).words.length = c.words.length + 1 := by rw [more_len, hl1]; rfl
 have hl3 : ((M1.more [1]).more [25, (r.locals.length : Int) + 1]).words.length = c.words.length + 3 := by rw [more_len, hl2]; rfl
 have L1 : ∀ (W : World) (V : Value) (lb nl' : Nat), MK base mb gm (ng + 1) nl' (some lb) (W.setCell ⟨mb, 4, none⟩ (.string r.name.1)) M1 V -> Calls Tryz.prog 101 #[.pointer (some ⟨mb, 0, none⟩), .slice (some ⟨W.heap.size, 0, none⟩) 1 1] ((W.setCell ⟨mb, 4, none⟩ (.string r.name.1)).alloc (.cells #[.int .i64 1] 3)) fun e w' => e = .returned (.int .i64 M1.words.length) /\ ∃ v', MK base mb gm (ng + 1) nl' (some lb) w' (M1.more [1]) v' /\ Mv mb V v' (W.setCell ⟨mb, 4, none⟩ (.string r.name.1)) w' := fun W V lb nl' hM => by
  have := lay0 hM [1] 3 (by rw [hl1]; simp; omega)
  rw [show (W.setCell ⟨mb, 4, none⟩ (.string r.name.1)).heap.size = W.heap.size from by simp [World.setCell]] at this
  exact this
 have L2 := fun W V lb nl' (hM : MK base mb gm (ng + 1) nl' (some lb) W (M1.more [1]) V) => lay0 hM [25, (r.locals.length : Int) + 1] 3 (by rw [hl2]; simp; omega)
 have HX : ∀ W V lb nl', MK base mb gm (ng + 1) nl' (some lb) W ((M1.more [1]).more [25, (r.locals.length : Int) + 1]) V -> GF base mb gm w W -> Calls Tryz.prog 100 #[.pointer (some ⟨mb, 0, none⟩), .slice ba vs.length bc] W (MPost base mb gm (ng + 1) nl' (some lb) (((M1.more [1]).more [25, (r.locals.length : Int) + 1]).more ((cSts (ceOf true (putG c.g r.name.1 (c.words.length, 0)) r) (c.words.length + 3) r.body).map Int.ofNat)) V W) := fun W V lb nl' hM hk => by
  have := sl_any (E := ceOf true (putG c.g r.name.1 (c.words.length, 0)) r) r.body Q W (.slice ba vs.length bc) vs _ V hM hE1 (hb.keep (hk.keepQ hQ)) (hA.keep (hk.keepQ hQ)) hQ2 hW.body.1 hW.body.2 (by rw [hl3]; omega)
  rw [hl3] at this
  exact this
 have HP : ∀ W V lb nl', MK base mb gm (ng + 1) nl' (some lb) W (((M1.more [1]).more [25, (r.locals.length : Int) + 1]).more ((cSts (ceOf true (putG c.g r.name.1 (c.words.length, 0)) r) (c.words.length + 3) r.body).map Int.ofNat)) V -> Calls Tryz.prog 154 #[.pointer (some ⟨mb, 0, none⟩)] W fun e w' => e = .returned (.int .i64 r.cells.length) /\ w' = W := fun W V lb nl' hM => by
  have := resultPlace_any hM
  rw [more_E, more_E, more_E, hE1, ceOf_eq] at this
  rw [hcn]
  exact this
 have L3 := fun W V lb nl' (hM : MK base mb gm (ng + 1) nl' (some lb) W (((M1.more [1]).more [25, (r.locals.length : Int) + 1]).more ((cSts (ceOf true (putG c.g r.name.1 (c.words.length, 0)) r) (c.words.length + 3) r.body).map Int.ofNat)) V) => lay0 hM [27, (r.cells.length : Int)] 3 (by rw [more_len, hl3, List.length_map]; simp; omega)
 have HF : ∀ W V lb nl', MK base mb gm (ng + 1) nl' (some lb) W ((((M1.more [1]).more [25, (r.locals.length : Int) + 1]).more ((cSts (ceOf true (putG c.g r.name.1 (c.words.length, 0)) r) (c.words.length + 3) r.body).map Int.ofNat)).more [27, (r.cells.length : Int)]) V -> MK base mb gm (ng + 1) nl' none ((W.setCell ⟨mb, 3, none⟩ (.map none)).setCell ⟨mb, 4, none⟩ (.string ⟨#[]⟩)) (mkOf (cGl c (.func r))) V /\ Fr (fun b => b = mb ∨ b = gm) W ((W.setCell ⟨mb, 3, none⟩ (.map none)).setCell ⟨mb, 4, none⟩ (.string ⟨#[]⟩)) := fun W V lb nl' hM => by
  have t1 := hM.turn (M' := ⟨(cGl c (.func r)).words.map Int.ofNat, c.places, ⟨(cGl c (.func r)).g, fun _ => none, 0, r.name.1⟩⟩) (lm' := none) (o := 3) (u := .map none) (.inl rfl) (fun _ => rfl) (fun e => by cases e) (fun e => by cases e) (fun _ => by rw [more_E, more_E, more_E, more_E, hE1]; rfl)
   (by rw [more_more, more_more, more_more]; show (cGl c (.func r)).words.map Int.ofNat = M1.words ++ _; rw [hcl, hw1]; simp) (by show c.places = M1.places; rw [hp1]) (by rw [more_E, more_E, more_E, more_E, hE1]; rfl) (fun b hb => by cases hb) (fun _ => ⟨fun _ => rfl, rfl⟩)
  have t2 := t1.1.turn (M' := mkOf (cGl c (.func r))) (lm' := none) (o := 4) (u := .string ⟨#[]⟩) (.inr rfl) (fun e => by cases e) (fun _ => rfl) (fun _ => rfl) (fun e => by cases e) rfl rfl rfl (fun b hb => by cases hb) (fun _ => ⟨fun _ => rfl, rfl⟩)
  exact ⟨t2.1, t1.2.trans t2.2⟩
 clear hM1 hE1 hw1 hp1 hl1 hl2 hl3 hbig hcl hwl hd hp hl hb hA hW hcn
 generalize (((M1.more [1]).more [25, (r.locals.length : Int) + 1]).more ((cSts (ceOf true (putG c.g r.name.1 (c.words.length, 0)) r) (c.words.length + 3) r.body).map Int.ofNat)).more [27, (r.cells.length : Int)] = M5 at *
 generalize ((M1.more [1]).more [25, (r.locals.length : Int) + 1]).more ((cSts (ceOf true (putG c.g r.name.1 (c.words.length, 0)) r) (c.words.length + 3) r.body).map Int.ofNat) = M4 at *
 generalize (M1.more [1]).more [25, (r.locals.length : Int) + 1] = M3 at *
 generalize M1.more [1] = M2 at *
 generalize r.cells.length = rcl at *
 unfold MPost at HX
 have hvb : v.ownBlock ≠ some w.heap.size := fun e => by have := (h.row _ e).2.1; omega
 generalize hAe : Obj.cells #[.string r.name.1, .int .i64 r.name.2, .slice pa r.params.length pc, .slice la r.locals.length lc, .slice ba vs.length bc] 222 = A
 have q0 : ∀ o, (w.alloc A).cell? ⟨w.heap.size, o, none⟩ = #[Value.string r.name.1, .int .i64 r.name.2, .slice pa r.params.length pc, .slice la r.locals.length lc, .slice ba vs.length bc][o]? := fun o => by rw [<- hAe]; exact World.cell?_alloc_new w _ _ o
 have hszA : w.heap.size < (w.alloc A).heap.size := by simp
 have HG : Hid (GF base mb gm w (w.alloc A)) := GF.of_below (k1 A)
 go_enter Tryz.func131, Tryz.ntmps131
 go_wp2_with (first
  | (go_at_call 101; have _q := hM4; refine (L3 _ _ _ _ hM4).mono ?_; rintro e w5 ⟨rfl, v5, hM5, hv5⟩; have hc3 := hM5.lo; have hz3 := hM5.frz 3; have hc4 := hM5.rs; have hz4 := hM5.frz 4; have HF4 := HF _ _ _ _ hM5; have HF5 : Hid _ := HF4; clear HF4; have HG5 : Hid (GF base mb gm w w5) := HG4.out.trans (GF.of_mv hM4 hv5))
  | (go_at_call 154; refine (HP _ _ _ _ hM4).mono ?_; rintro e w6 ⟨rfl, h9⟩; cases h9)
  | (go_at_call 100; refine (HX _ _ _ _ hM3 HG3.out).mono ?_; rintro e w4 ⟨rfl, v4, hM4, hv4⟩; have HG4 : Hid (GF base mb gm w w4) := HG3.out.trans (GF.of_mv hM3 hv4))
  | (go_at_call 101; have _q := hM2; refine (L2 _ _ _ _ hM2).mono ?_; rintro e w3 ⟨rfl, v3, hM3, hv3⟩; obtain ⟨hq3, _, _⟩ := hv3.keeps (k := w.heap.size) (by omega) hvb2 hl2; have q34 := (hq3 4).trans q24; have HG3 : Hid (GF base mb gm w w3) := HG2.out.trans (GF.of_mv hM2 hv3); clear hq3)
  | (go_at_call 101; refine (L1 _ _ _ _ hMr).mono ?_; rintro e w2 ⟨rfl, v2, hM2, hv2⟩; obtain ⟨hq2, hvb2, hl2⟩ := hv2.keeps (k := w.heap.size) (by omega) hvb (Nat.lt_of_lt_of_le hl1 hFr.size); have q23 := (hq2 3).trans ((hFr.cell hl1 (by omega) 3).trans q13); have q24 := (hq2 4).trans ((hFr.cell hl1 (by omega) 4).trans q14); have HG2 : Hid (GF base mb gm w w2) := (HG1.out.trans (GF.of_fr hFr)).trans (GF.of_mv hMr hv2); clear hq2)
  | (go_at_call 153; refine (HB _).mono ?_; rintro e w1 ⟨rfl, lb, nl', hM1, hF1⟩; have q10 := (hF1.cell hszA (by omega) 0).trans (q0 0); have q13 := (hF1.cell hszA (by omega) 3).trans (q0 3); have q14 := (hF1.cell hszA (by omega) 4).trans (q0 4); have hl1 : w.heap.size < w1.heap.size := Nat.lt_of_lt_of_le hszA hF1.size; have HG1 : Hid (GF base mb gm w w1) := HG.out.trans (GF.of_fr hF1); obtain ⟨hMr, hFr⟩ := HR _ _ _ _ hM1; have hr4 := hM1.rs; have hzr := hM1.frz 4))
 go_end0
 exact ⟨rfl, v5, _, HF5.out.1, HG5.out.trans (GF.of_fr HF5.out.2)⟩
end
section
variable {lb gm ng nl : Nat} {lm : Option Nat} {w w' : World} {c : Nat × Nat} {L : PEnv} {E : Env} {Q : Nat -> Prop}
theorem lroutine_any (h : Top lb gm ng w c L E) (hng : ng + 1 < maxLen) (kind : Nat) (r : Ro) {vp vl vb : Value} {vs : List Value} (hp : SliceN Q w vp r.params) (hl : SliceN Q w vl r.locals) (hb : SliceV Q w vb vs) (hA : SAll Q w vs r.body)
  (hQ : ∀ b, Q b -> b ≠ lb /\ b ≠ gm) (hO : OkRo r) (hlen : r.params.length + r.locals.length <= 601) (res : ByteArray) (hres : res = if kind = 3 then r.name.1 else ⟨#[]⟩) :
  Calls Tryz.prog 149 #[.pointer (some ⟨lb, 0, none⟩), .agg #[.string r.name.1, .int .i64 r.name.2, vp, vl, vb], .int .i64 ((kind + 1 : Nat) : Int), .string res] w (GPost lb gm ng (lookRo E kind r) c w) := by
 have hlt := h.pl.lt
 have hgl := h.pl.gl
 have hgt := h.pl.gmap.lt
 have hn : r.name.1.size <= maxLen := by have := hO.name.2; unfold maxLen; omega
 obtain ⟨pa, pc, rfl⟩ := hp.len
 obtain ⟨la, lc, rfl⟩ := hl.len
 obtain ⟨ba, bc, rfl⟩ := hb.len
 have k1 : ∀ A, Below w.heap.size w (w.alloc A) := fun A => (Below.refl _ _).alloc (Nat.le_refl _) _
 have hD : ∀ A, Calls Tryz.prog 147 #[.pointer (some ⟨lb, 0, none⟩), .map (some gm), .agg #[.string r.name.1, .int .i64 r.name.2], symV (kind + 1, r.params.length)] (w.alloc A).drew (DPost lb gm (ng + 1) 0 none L.res gm (declF E false r.name.1 r.name.2 kind r.params.length) c (w.alloc A).drew) := fun A =>
  decl_glob (h.pl.below (k1 A).drew) (by rw [noRes_id h.res]; exact h.rep) h.ins (by omega) hn _ _ _ (fun _ => h.l)
 unfold symV at hD
 have HP : Hid (SliceN Q w (.slice pa r.params.length pc) r.params) := hp
 have HL : Hid (SliceN Q w (.slice la r.locals.length lc) r.locals) := hl
 have HB : Hid (SliceV Q w (.slice ba vs.length bc) vs) := hb
 have HE : Hid (Top lb gm ng w c L E) := h
 have HO : Hid (OkRo r) := hO
 have HA : Hid (SAll Q w vs r.body) := hA
 have hcg : ∀ A, (w.alloc A).cell? ⟨lb, 2, none⟩ = some (.map (some gm)) := fun A => (h.pl.below (k1 A)).gl
 have HR : Hid (res = if kind = 3 then r.name.1 else ⟨#[]⟩) := hres
 clear hp hl hb h hO hA hres
 generalize hc1 : declF E false r.name.1 r.name.2 kind r.params.length = d1 at *
 have HZ : Hid (∀ w1 c1 L1, PL lb gm (ng + 1) 0 none w1 c1 L1 -> 4 < r.params.length -> Calls Tryz.prog 148 #[.pointer (some ⟨lb, 0, none⟩), .int .i64 7, .int .i64 r.name.2] w1.drew fun e w' => e = .returned (.tuple #[]) /\ PL lb gm (ng + 1) 0 none w' (tellF (manyF r.params.length r.name.2) c1) L1 /\ Par lb w1.drew w') := fun w1 c1 L1 h1 h2 => by
  have e : manyF r.params.length r.name.2 = some (7, r.name.2) := by unfold manyF; rw [if_pos h2]
  rw [e]; exact ltell_any (h1.below (Below.refl _ _).drew) 7 r.name.2
 have HZ0 : Hid (¬ 4 < r.params.length -> manyF r.params.length r.name.2 = none) := fun h2 => by unfold manyF; rw [if_neg h2]
 generalize hK : ((kind + 1 : Nat) : Int) = K at *
 go_enter Tryz.func149, Tryz.ntmps149
 go_upto_region 1 with fail
 go_cut [] from 12 to 24 (fun wx => ∃ L2 A, A = .cells #[.string r.name.1, .int .i64 r.name.2, .slice pa r.params.length pc, .slice la r.locals.length lc, .slice ba vs.length bc] 218 /\ PL lb gm (ng + 1) 0 none wx (tellF d1.2 c) L2 /\ ((tellF d1.2 c).1 = 0 -> Rep (noRes L2) d1.1) /\ L2.res = L.res /\ L2.l = (fun _ => (0, 0)) /\ Fr (fun b => b = lb ∨ b = gm) (w.alloc A) wx)
 case first =>
  go_region_with (go_at_call 147; refine (hD _).mono ?_; rintro e w2 ⟨rfl, L2, hP2, hr2, hres2, hF2, hl2⟩)
  all_goals (go_wp2_with fail; go_meet; exact ⟨L2, _, rfl, hP2, hr2, hres2, hl2 trivial, (Fr.of_below (Below.refl _ _).drew).trans hF2⟩)
 case rest =>
  obtain ⟨L2, A, hA, hP2, hr2, hres2, hl2, hF2⟩ := hcut
  generalize hc1' : tellF d1.2 c = c1 at *
  have hl2t := hP2.lt
  have q0 : ∀ o, (w.alloc A).cell? ⟨w.heap.size, o, none⟩ = #[Value.string r.name.1, .int .i64 r.name.2, .slice pa r.params.length pc, .slice la r.locals.length lc, .slice ba vs.length bc][o]? := fun o => by rw [hA]; exact World.cell?_alloc_new w _ _ o
  have q : ∀ {wx : World}, Fr (fun b => b = lb ∨ b = gm ∨ (w.alloc A).heap.size <= b) (w.alloc A) wx -> ∀ o, wx.cell? ⟨w.heap.size, o, none⟩ = #[Value.string r.name.1, .int .i64 r.name.2, .slice pa r.params.length pc, .slice la r.locals.length lc, .slice ba vs.length bc][o]? := fun {wx} hF o => by
   rw [hF.cell (by simp) (by simp; omega), q0]
  have hF2' : Fr (fun b => b = lb ∨ b = gm ∨ (w.alloc A).heap.size <= b) (w.alloc A) wc := hF2.weak (fun k _ hk => hk.elim .inl (fun h => .inr (.inl h)))
  have q1 := q hF2' 1
  have q2 := q hF2' 2
  clear hA hD
  go_upto_if 28 with fail
  go_cut [] from 25 to 35 (fun wx => PL lb gm (ng + 1) 0 none wx (tellF (manyF r.params.length r.name.2) c1) L2 /\ Fr (fun b => b = lb ∨ b = gm ∨ (w.alloc A).heap.size <= b) (w.alloc A) wx)
  case first =>
   by_cases hz : 4 < r.params.length
   ·have hzb : decide ((4 : Int) < (r.params.length : Int)) = true := by simp; omega
    have hT := HZ.out wc c1 L2 hP2 hz
    go_wp2_with fail
    go_region_with (go_at_call 148; refine hT.mono ?_; rintro e w3 ⟨rfl, hP3, hk3⟩)
    all_goals (go_wp2_with fail; go_meet; exact ⟨hP3, (hF2'.trans (Fr.of_below (Below.refl _ _).drew)).trans (Fr.of_par hk3 (.inl rfl))⟩)
   ·have hzb : decide ((4 : Int) < (r.params.length : Int)) = false := by simp; omega
    go_wp2_with fail
    go_meet
    exact ⟨by rw [HZ0.out hz, tellF_none]; exact hP2, hF2'⟩
  case rest =>
   obtain ⟨hP3, hF3⟩ := hcut
   generalize hc2 : tellF (manyF r.params.length r.name.2) c1 = c2 at *
   have hl3 := hP3.lt
   have hlo := hP3.lo
   have hrs := hP3.rs
   have hf3 := hP3.frz 3
   have hf4 := hP3.frz 4
   have q32 := q hF3 2
   have hrb : w.heap.size < wc.heap.size := Nat.lt_of_lt_of_le (by simp) hF3.size
   have hP4 := hP3.enter res
   have hmk := fun W => run_makeMap (P := Tryz.prog) 201 W
   clear hF2' q1 q2 q0 hF2 hP2
   go_wp2
   rw [World.setCell_alloc_past _ _ _ _ hl3, World.setCell_alloc_past _ _ _ _ (by simpa using hl3)] at hP4
   have hF4 : Fr (fun b => b = lb ∨ b = gm ∨ (w.alloc A).heap.size <= b) (w.alloc A) (((wc.setCell ⟨lb, 3, none⟩ (.map (some wc.heap.size))).setCell ⟨lb, 4, none⟩ (.string res)).alloc (.map #[] 0)) := hF3.trans (Fr.of_par ((((Par.refl lb wc).setCell 3 _).setCell 4 _).alloc _) (.inl rfl))
   have hmb : (w.alloc A).heap.size <= wc.heap.size := hF3.size
   have hr4 : c2.1 = 0 -> Rep (noRes ⟨L2.g, fun _ => (0, 0), res⟩) d1.1 := fun h0 => by
    rw [<- hc2] at h0
    exact rep_start (hr2 (tell_none_of (nz_manyF _ _) h0).1) (by rw [<- hc1]; exact (declF_here _ _ _ _ _).trans HE.out.here)
   have HR4 : Hid (c2.1 = 0 -> Rep (noRes ⟨L2.g, fun _ => (0, 0), res⟩) d1.1) := hr4
   clear hr4 hr2 hF3 hP3 q32 hlo hrs hf3 hf4 hmk
   generalize hmbe : wc.heap.size = mb at *
   go_loopw [9, 47] (fun _ i wr => ∃ (j : Nat) (L' : PEnv), i = .int .i64 j /\ j <= r.params.length /\ PL lb gm (ng + 1) j (some mb) wr (tellF (lookNames d1.1 (r.params.take j)).2 c2) L' /\ Hid ((tellF (lookNames d1.1 (r.params.take j)).2 c2).1 = 0 -> Rep (noRes L') (lookNames d1.1 (r.params.take j)).1) /\ L'.res = res /\ Fr (fun b => b = lb ∨ b = gm ∨ (w.alloc A).heap.size <= b) (w.alloc A) wr) (fun _ i _ => r.params.length - (intOf i).toNat)
   case atStart => exact ⟨0, _, rfl, Nat.zero_le _, by rw [List.take_zero, lookNames, tellF_none]; exact hP4, by rw [List.take_zero, lookNames, tellF_none]; exact HR4, rfl, hF4⟩
   case round =>
    obtain ⟨j, L', rfl, hj, hP, hrj, hresj, hFj⟩ := hrel
    by_cases hlt2 : j < r.params.length
    ·obtain ⟨b, cap, hv, hqb, hbl, hx0, hx1⟩ := HP.out.at hlt2
     injection hv with hv1 hv2 hv3
     subst hv1 hv3
     clear hv2
     have hfr : ∀ o, wr.cell? ⟨b, o, none⟩ = w.cell? ⟨b, o, none⟩ := fun o => by
      rw [hFj.cell (by simp; omega) (by have := hQ b hqb; simp; omega), World.cell?_alloc_lt _ _ _ hbl]
     rw [<- hfr] at hx0 hx1
     have hcl3 : ∀ X, (wr.alloc X).cell? ⟨lb, 3, none⟩ = some (.map (some mb)) := fun X => (hP.below ((Below.refl _ _).alloc (Nat.le_refl _) X)).lo
     have hwl := hP.lt
     have hDh := fun X => names_step hP hrj.out (by unfold maxLen; omega) (List.getElem?_eq_getElem hlt2) (by have := (HO.out.params _ (List.getElem_mem hlt2)).2; unfold maxLen; omega) (W := (wr.alloc X).drew) ((Below.refl _ _).alloc (Nat.le_refl _) X).drew
     unfold symV at hDh
     have hws : (w.alloc A).heap.size <= wr.heap.size := hFj.size
     clear hrj hP hfr
     generalize r.params[j] = x at *
     go_wp2
     go_region_with (go_at_call 147; refine (hDh _).mono ?_; rintro e w6 ⟨rfl, L6, hP6, hr6, hres6, hF6⟩)
     all_goals go_wp2_with fail
     all_goals go_roundw
     all_goals first
      | exact ⟨j + 1, L6, by go_num, by omega, hP6, hr6, hres6.trans hresj, (hFj.trans (Fr.of_below ((Below.refl _ _).alloc (Nat.le_refl _) _).drew)).trans (hF6.weak fun k _ hk => hk.elim .inl fun h => .inr (.inr (by omega)))⟩
      | (simp [intOf]; omega)
    ·have ej : j = r.params.length := by omega
     rw [ej, List.take_length] at hP hrj
     subst ej
     have hE2 : lookNames d1.1 r.params = lookNames d1.1 r.params := rfl
     generalize hE2' : lookNames d1.1 r.params = e2 at *
     clear hE2
     generalize hc3 : tellF e2.2 c2 = c3 at *
     have q33 := q hFj 3
     have hwl := hP.lt
     clear HR4 hF4 hP4 hj hlt2
     go_wp2
     go_loopw [11, 63] (fun _ i wr => ∃ (j : Nat) (L' : PEnv), i = .int .i64 j /\ j <= r.locals.length /\ PL lb gm (ng + 1) (r.params.length + j) (some mb) wr (tellF (lookNames e2.1 (r.locals.take j)).2 c3) L' /\ Hid ((tellF (lookNames e2.1 (r.locals.take j)).2 c3).1 = 0 -> Rep (noRes L') (lookNames e2.1 (r.locals.take j)).1) /\ L'.res = res /\ Fr (fun b => b = lb ∨ b = gm ∨ (w.alloc A).heap.size <= b) (w.alloc A) wr) (fun _ i _ => r.locals.length - (intOf i).toNat)
     case atStart => exact ⟨0, L', rfl, Nat.zero_le _, by rw [List.take_zero, lookNames, tellF_none]; exact hP, by rw [List.take_zero, lookNames, tellF_none]; exact hrj, hresj, hFj⟩
     case round =>
      clear hP hrj hresj hFj q33 hwl
      obtain ⟨j, L', rfl, hj, hP, hrj, hresj, hFj⟩ := hrel
      by_cases hlt2 : j < r.locals.length
      ·obtain ⟨b, cap, hv, hqb, hbl, hx0, hx1⟩ := HL.out.at hlt2
       injection hv with hv1 hv2 hv3
       subst hv1 hv3
       clear hv2
       have hfr : ∀ o, wr.cell? ⟨b, o, none⟩ = w.cell? ⟨b, o, none⟩ := fun o => by
        rw [hFj.cell (by simp; omega) (by have := hQ b hqb; simp; omega), World.cell?_alloc_lt _ _ _ hbl]
       rw [<- hfr] at hx0 hx1
       have hcl3 : ∀ X, (wr.alloc X).cell? ⟨lb, 3, none⟩ = some (.map (some mb)) := fun X => (hP.below ((Below.refl _ _).alloc (Nat.le_refl _) X)).lo
       have hwl := hP.lt
       have hDh := fun X => names_step hP hrj.out (by unfold maxLen; omega) (List.getElem?_eq_getElem hlt2) (by have := (HO.out.locals _ (List.getElem_mem hlt2)).2; unfold maxLen; omega) (W := (wr.alloc X).drew) ((Below.refl _ _).alloc (Nat.le_refl _) X).drew
       unfold symV at hDh
       have hws : (w.alloc A).heap.size <= wr.heap.size := hFj.size
       clear hrj hP hfr
       generalize r.locals[j] = x at *
       go_wp2
       go_region_with (go_at_call 147; refine (hDh _).mono ?_; rintro e w6 ⟨rfl, L6, hP6, hr6, hres6, hF6⟩)
       all_goals go_wp2_with fail
       all_goals go_roundw
       all_goals first
        | exact ⟨j + 1, L6, by go_num, by omega, hP6, hr6, hres6.trans hresj, (hFj.trans (Fr.of_below ((Below.refl _ _).alloc (Nat.le_refl _) _).drew)).trans (hF6.weak fun k _ hk => hk.elim .inl fun h => .inr (.inr (by omega)))⟩
        | (simp [intOf]; omega)
      ·have ej : j = r.locals.length := by omega
       rw [ej, List.take_length] at hP hrj
       subst ej
       generalize hE3 : lookNames e2.1 r.locals = e3 at *
       generalize hc4 : tellF e3.2 c3 = c4 at *
       have q44 := q hFj 4
       have hwl := hP.lt
       have KQ : KeepQ Q w wr := ⟨Nat.le_trans (k1 A).size hFj.size, fun b hb hl => (hFj.block b (by simp; omega) (by have := hQ b hb; simp; omega)).trans ((k1 A).block b hl)⟩
       have HREP : Hid (c4.1 = 0 -> Rep L' e3.1.enter) := fun h0 => by
        have h4 := hrj.out h0
        rw [<- hc4, <- hE3] at h0
        have t3 := tell_none_of (nz_lookNames _ _) h0
        have h03 := t3.1
        rw [<- hc3, <- hE2'] at h03
        have t2 := tell_none_of (nz_lookNames _ _) h03
        have h02 := t2.1
        rw [<- hc2] at h02
        have t1 := tell_none_of (nz_manyF _ _) h02
        have h01 := t1.1
        rw [<- hc1', <- hc1] at h01
        have t0 := tell_none_of (nz_declF _ _ _ _ _ _) h01
        have eg := declF_glob t0.2
        refine rep_enter h4 hresj (l := E.glob) (y := ⟨r.name.1, kind, r.params.length⟩) ?_ HR.out
        rw [<- hE3, lookNames_glob, <- hE2', lookNames_glob, <- hc1]
        exact eg
       have hLL := ll_any (E := e3.1.enter) r.body Q wr _ vs c4 hP HREP.out (HB.out.keep KQ) (HA.out.keep KQ) (fun b hb => (hQ b hb).1) HO.out.body.1 HO.out.body.2
       have HFIN : Hid (tellF (lookRo E kind r).2 c = tellF (lookSts e3.1.enter r.body) c4) := by
        show _ = _
        rw [lookRo_tell, hc1, hE2', hE3, hc1', hc2, hc3, hc4]
       have HLE : Hid ((lookRo E kind r).1 = e3.1.leave) := by
        show (lookNames (lookNames (declF E false r.name.1 r.name.2 kind r.params.length).1 r.params).1 r.locals).1.leave = _
        rw [hc1, hE2', hE3]
       have HRJ := hrj
       generalize hc5 : tellF (lookSts e3.1.enter r.body) c4 = c5 at *
       clear hrj
       go_wp2_with (go_at_call 121; refine hLL.mono ?_; rintro e w7 ⟨rfl, hP7, hk7⟩; have hlo7 := hP7.lo; have hrs7 := hP7.rs; have hf73 := hP7.frz 3; have hf74 := hP7.frz 4; have hl7 := hP7.lt)
       go_end0
       refine ⟨rfl, ⟨⟨L'.g, fun _ => (0, 0), ⟨#[]⟩⟩, ?_⟩, ?_⟩
       ·rw [HFIN.out, HLE.out]
        refine ⟨hP7.leave, fun h0 => rep_leave (L2 := L') fun n => ?_, rfl, rfl, rfl, rfl⟩
        rw [<- hc5] at h0
        exact (HRJ.out (tell_none_of (nz_lookSts _ _) h0).1).g n
       ·have hf := (hFj.trans (Fr.of_par hk7 (.inl rfl))).trans (Fr.of_par (((Par.refl lb w7).setCell 3 (.map none)).setCell 4 (.string ⟨#[]⟩)) (.inl rfl))
        exact ((Fr.of_below (k1 A)).trans hf).weak fun k hk hs => hs.elim .inl fun h => h.elim .inr fun h => by simp at h; omega
end
end Go.Proofs.YtklobognaldjpaaGreat
