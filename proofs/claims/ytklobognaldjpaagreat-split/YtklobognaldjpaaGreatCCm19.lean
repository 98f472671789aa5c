/- Plain: where nothing is wrong with the names, no name is there twice. The maker of code: a whole program. The maker of code: Program. -/
import Derived.Test.YtklobognaldjpaaGreatCSim9
import Derived.Test.YtklobognaldjpaaGreatCCm15
import Derived.Test.YtklobognaldjpaaGreatCLk10
import Derived.Test.YtklobognaldjpaaGreatCWh2
import Derived.Test.YtklobognaldjpaaGreatCDecl4
import Derived.Test.YtklobognaldjpaaGreatCLk13
set_option maxRecDepth 1000000
set_option maxHeartbeats 4000000
namespace Go.Proofs.YtklobognaldjpaaGreat
def syH (x : ByteArray × Nat) : Sy := ⟨x.1, 0, 0⟩
theorem decl_here_none {E : Env} {n : ByteArray} {p : Nat} (h : (declF E true n p 0 0).2 = none) : (declF E true n p 0 0).1 = { E with here := E.here ++ [⟨n, 0, 0⟩] } /\ findLast E.here n = none := by
 unfold declF at *
 cases hf : findLast (E.row true) n with
 | some k => rw [hf] at h; simp at h
 | none =>
  rw [hf] at h
  refine ⟨?_, hf⟩
  simp [Env.add]
theorem dist_names : ∀ (l : List (ByteArray × Nat)) (E : Env), (lookNames E l).2 = none -> ∀ j x, l[j]? = some x -> findLast (E.here ++ (l.take j).map syH) x.1 = none
 | [], E, _, j, x, h => by simp at h
 | y :: l, E, h, j, x, hj => by
  rw [lookNames] at h
  obtain ⟨h1, h2⟩ := or_none h
  obtain ⟨d1, d2⟩ := decl_here_none h1
  cases j with
  | zero =>
   simp at hj
   subst hj
   simpa using d2
  | succ j =>
   rw [d1] at h2
   have := dist_names l _ h2 j x (by simpa using hj)
   simp only at this
   rw [List.take_succ_cons, List.map_cons]
   rw [List.append_assoc] at this
   exact this
theorem lookNames_app : ∀ (a b : List (ByteArray × Nat)) (E : Env), (lookNames E a).2 = none -> (lookNames (lookNames E a).1 b).2 = none -> (lookNames E (a ++ b)).2 = none
 | [], b, E, _, h2 => by rw [lookNames] at h2; exact h2
 | y :: a, b, E, h1, h2 => by
  rw [lookNames] at h1 h2
  obtain ⟨d1, d2⟩ := or_none h1
  show (lookNames E (y :: (a ++ b))).2 = none
  rw [lookNames]
  simp only at h2 ⊢
  rw [d1, lookNames_app a b _ d2 h2]; rfl
theorem dist_of {E : Env} {l : List (ByteArray × Nat)} (hh : E.here = []) (h : (lookNames E l).2 = none) : DistN l := by
 intro j x hj
 have h1 := dist_names l E h j x hj
 rw [hh, List.nil_append] at h1
 have e : (l.take j).map syH = ((l.take j).map (·.1)).map fun n => (⟨n, 0, 0⟩ : Sy) := by rw [List.map_map]; rfl
 rw [e] at h1
 have h2 := here_find.1 h1
 unfold nmL
 rw [List.findIdx?_eq_none_iff]
 intro y hy
 exact h2 y hy
def DistG : Gl -> Prop
 | .proc r => DistN (r.params ++ r.locals)
 | .func r => DistN (r.params ++ r.locals)
 | _ => True
theorem dist_ro {E : Env} {kind : Nat} {r : Ro} (hh : E.here = []) (h : (lookRo E kind r).2 = none) : DistN (r.params ++ r.locals) := by
 unfold lookRo at h
 simp only at h
 obtain ⟨h1, _⟩ := or_none h
 obtain ⟨h2, h3⟩ := or_none h1
 unfold lookHead at h2 h3
 simp only at h2 h3
 obtain ⟨h4, h5⟩ := or_none h2
 obtain ⟨h6, _⟩ := or_none h4
 obtain ⟨d1, _⟩ := decl_out h6
 have h7 := lookNames_app r.params r.locals _ h5 h3
 exact dist_of (by rw [d1]; exact hh) h7
theorem dist_gls : ∀ (l : List Gl) (E : Env), (lookGls E l).2 = none -> E.here = [] -> E.inside = none -> ∀ g ∈ l, DistG g
 | [], E, _, _, _, g, hg => by simp at hg
 | x :: l, E, h, hh, hi, g, hg => by
  rw [lookGls] at h
  obtain ⟨h1, h2⟩ := or_none h
  obtain ⟨a1, a2, a3, _, _⟩ := look_gl h1 hh hi
  rcases List.mem_cons.1 hg with e | e
  ·subst e
   cases g with
   | var n p => trivial
   | arr n p s a => trivial
   | proc r => exact dist_ro (kind := 2) hh h1
   | func r => exact dist_ro (kind := 3) hh h1
  ·exact dist_gls l _ h2 a2 a3 g e
open Go.RowKit
section
variable {base mb gm ng nl : Nat} {lm : Option Nat} {w w' w1 : World} {M : Mkr} {v v' : Value} {Q : Nat -> Prop}
theorem mglobal_any {c : CG} (h : MK base mb gm ng nl none w (mkOf c) v) {g : Gl} {vg : Value} (hR : RGl Q w vg g) (hQ : ∀ b, Q b -> b < base /\ b ≠ mb /\ b ≠ gm) {T : List Tok} (hW : GlWh T g) (hT : T.length <= 601) (hd : DistG g) (hng : ng < maxLen) (hpl : (cGl c g).places <= 1000000) (hbig : (cGl c g).words.length <= 1000000) :
  Calls Tryz.prog 99 #[.pointer (some ⟨mb, 0, none⟩), vg] w (GPo base mb gm (ng + 1) (cGl c g) w) := by
 have hlt := h.lt
 have k1 : ∀ A, Below w.heap.size w (w.alloc A) := fun A => (Below.refl _ _).alloc (Nat.le_refl _) _
 have kq : ∀ A, KeepQ Q w (w.alloc A) := fun A => (GF.of_below (base := base) (mb := mb) (gm := gm) (k1 A)).keepQ hQ
 cases hR with
 | var n p =>
  have hn : n.size <= maxLen := nm_size hW.1
  have HR := fun A => reserve_any (h.below (k1 A)) hn p 1 hng hpl
  have HF : ∀ W, MK base mb gm (ng + 1) nl none W ⟨(mkOf c).words, (mkOf c).places + 1, { (mkOf c).E with g := putG (mkOf c).E.g n ((mkOf c).places, 1) }⟩ v -> MK base mb gm (ng + 1) nl none W (mkOf (cGl c (.var n p))) v := fun W h => h
  generalize (⟨(mkOf c).words, (mkOf c).places + 1, { (mkOf c).E with g := putG (mkOf c).E.g n ((mkOf c).places, 1) }⟩ : Mkr) = M1 at HR HF
  clear hpl hbig hd hW
  go_enter Tryz.func99, Tryz.ntmps99
  go_wp2_with (go_at_call 129; refine (HR _).mono ?_; rintro e w1 ⟨rfl, hM1, hF1⟩)
  go_end0
  exact ⟨rfl, v, nl, HF _ hM1, (GF.of_below (k1 _)).trans (GF.of_fr hF1)⟩
 | arr n p size at_ =>
  have hn : n.size <= maxLen := nm_size hW.1
  have HR := fun A => reserve_any (h.below (k1 A)) hn p size hng hpl
  have HF : ∀ W, MK base mb gm (ng + 1) nl none W ⟨(mkOf c).words, (mkOf c).places + size, { (mkOf c).E with g := putG (mkOf c).E.g n ((mkOf c).places, size) }⟩ v -> MK base mb gm (ng + 1) nl none W (mkOf (cGl c (.arr n p size at_))) v := fun W h => h
  generalize (⟨(mkOf c).words, (mkOf c).places + size, { (mkOf c).E with g := putG (mkOf c).E.g n ((mkOf c).places, size) }⟩ : Mkr) = M1 at HR HF
  clear hpl hbig hd hW
  go_enter Tryz.func99, Tryz.ntmps99
  go_wp2_with (go_at_call 129; refine (HR _).mono ?_; rintro e w1 ⟨rfl, hM1, hF1⟩)
  go_end0
  exact ⟨rfl, v, nl, HF _ hM1, (GF.of_below (k1 _)).trans (GF.of_fr hF1)⟩
 | proc r h1 h2 h3 h4 =>
  rename_i vp vl vb vs
  have hlen : r.params.length + r.locals.length <= T.length := hW.2
  have HR := fun A => proc_any (h.below (k1 A)) r (h1.keep (kq A)) (h2.keep (kq A)) (h3.keep (kq A)) (h4.keep (kq A)) hQ hd hW.1 hng (by omega) hbig
  obtain ⟨pa, pc, rfl⟩ := h1.len
  obtain ⟨la, lc, rfl⟩ := h2.len
  obtain ⟨ba, bc, rfl⟩ := h3.len
  unfold GPo at HR
  clear hpl hbig hd hW h1 h2 h3 h4 hlen
  go_enter Tryz.func99, Tryz.ntmps99
  go_wp2_with (go_at_call 130; refine (HR _).mono ?_; rintro e w1 ⟨rfl, v1, nl1, hM1, hF1⟩)
  go_end0
  exact ⟨rfl, v1, nl1, hM1, (GF.of_below (k1 _)).trans hF1⟩
 | func r h1 h2 h3 h4 =>
  rename_i vp vl vb vs
  have hlen : r.params.length + r.locals.length <= T.length := hW.2
  have HR := fun A => func_any (h.below (k1 A)) r (h1.keep (kq A)) (h2.keep (kq A)) (h3.keep (kq A)) (h4.keep (kq A)) hQ hd hW.1 hng (by omega) hbig
  obtain ⟨pa, pc, rfl⟩ := h1.len
  obtain ⟨la, lc, rfl⟩ := h2.len
  obtain ⟨ba, bc, rfl⟩ := h3.len
  unfold GPo at HR
  clear hpl hbig hd hW h1 h2 h3 h4 hlen
  go_enter Tryz.func99, Tryz.ntmps99
  go_wp2_with (go_at_call 131; refine (HR _).mono ?_; rintro e w1 ⟨rfl, v1, nl1, hM1, hF1⟩)
  go_end0
  exact ⟨rfl, v1, nl1, hM1, (GF.of_below (k1 _)).trans hF1⟩
end
theorem mk0 (w : World) (A B C : Array Value) (t u s : TypeId) (hC : C = #[.slice none 0 0, .int .i64 0, .map (some (w.heap.size + 2)), .map none, .string ⟨#[]⟩]) :
  MK (w.heap.size + 4) (w.heap.size + 3) (w.heap.size + 2) 0 0 none ((((w.alloc (.cells A t)).alloc (.cells B u)).alloc (.map #[] 0)).alloc (.cells C s)) (mkOf cg0) (.slice none 0 0) := by
 have e1 : ((w.alloc (.cells A t)).alloc (.cells B u)).heap.size = w.heap.size + 2 := by simp
 have e2 : (((w.alloc (.cells A t)).alloc (.cells B u)).alloc (.map #[] 0)).heap.size = w.heap.size + 3 := by simp
 have hc : ∀ o, ((((w.alloc (.cells A t)).alloc (.cells B u)).alloc (.map #[] 0)).alloc (.cells C s)).cell? ⟨w.heap.size + 3, o, none⟩ = C[o]? := fun o => by
  rw [<- e2]; exact World.cell?_alloc_new _ C s o
 have hM : MapIs ((((w.alloc (.cells A t)).alloc (.cells B u)).alloc (.map #[] 0)).alloc (.cells C s)) (w.heap.size + 2) 0 (fun _ => (0, 0)) := by
  have h0 := mapIs_made ((w.alloc (.cells A t)).alloc (.cells B u))
  rw [e1] at h0
  exact h0.block (Below.heap_alloc _ _ _ (by rw [e2]; omega))
 refine ⟨?_, ?_, ?_, ?_, ?_, ?_, ?_, hM, fun b hb => (by cases hb), fun _ => ⟨fun _ => rfl, rfl⟩, by omega, by simp, by omega, fun b hb => (by cases hb)⟩
 ·rw [hc, hC]; rfl
 ·rw [hc, hC]; rfl
 ·rw [hc, hC]; rfl
 ·rw [hc, hC]; rfl
 ·rw [hc, hC]; rfl
 ·intro o
  rw [<- e2]; exact World.frozen?_alloc_new _ C s o
 ·exact World.ownsRow_nil _ _ _ _
theorem lenInts (a : Option Addr) (n c : Nat) (ty : TypeId) (W : World) : (Builtin.len_ #[23] ty #[.slice a n c]).run Tryz.prog W = .ok (.int .i64 (n : Nat)) W := by kernel_rfl
def CodePost (p : Pr) (w : World) (e : Ending) (w' : World) : Prop :=
 Below w.heap.size w w' /\ ∃ wb wc, e = .returned (.agg #[.slice (some ⟨wb, 0, none⟩) (cPr p).1.length wc, .int .i64 ((cPr p).2.1 : Nat), .int .i64 ((cPr p).2.2 : Nat)]) /\ w.heap.size <= wb /\ wb < w'.heap.size /\
  ∀ j x, (cPr p).1[j]? = some x -> w'.cell? ⟨wb, j, none⟩ = some (.int .i64 (x : Nat))
theorem code_post {p : Pr} {M9 : Mkr} {st base va vc rb : Nat} {w w3 : World} (h1 : M9.words = (cPr p).1.map Int.ofNat) (h2 : M9.places = (cPr p).2.2) (h3 : (cPr p).2.1 = st) (ho : w3.ownsRow base 3 1 (.slice (some ⟨va, 0, none⟩) M9.words.length vc) M9.words.length (M9.words.map (.int .i64)))
  (hb : base <= va) (hv : va < w3.heap.size) (hrb : rb < base) (hw : w.heap.size < rb) (hB : Below w.heap.size w w3) {x y z : Value} :
  CodePost p w (.returned (.agg #[.slice (some ⟨va, 0, none⟩) M9.words.length vc, .int .i64 (st : Nat), .int .i64 (M9.places : Nat)])) (((w3.drew.setCell ⟨rb, 0, none⟩ x).setCell ⟨rb, 1, none⟩ y).setCell ⟨rb, 2, none⟩ z) := by
 have hl : M9.words.length = (cPr p).1.length := by rw [h1, List.length_map]
 refine ⟨((hB.drew.setCell (Nat.le_of_lt hw) _).setCell (Nat.le_of_lt hw) _).setCell (Nat.le_of_lt hw) _, va, vc, ?_, by omega, by simpa [World.setCell] using hv, fun j x hj => ?_⟩
 ·rw [hl, <- h3, h2]
 ·have hjl : j < (cPr p).1.length := (List.getElem?_eq_some_iff.1 hj).1
  have hne : ∀ o, (⟨rb, o, none⟩ : Addr) ≠ ⟨va, j, none⟩ := fun o e => by injection e with e1; omega
  rw [World.cell?_setCell_other _ _ _ _ (hne 2), World.cell?_setCell_other _ _ _ _ (hne 1), World.cell?_setCell_other _ _ _ _ (hne 0)]
  show w3.cell? ⟨va, j, none⟩ = _
  rw [ho.cellAt j (by omega), h1, List.map_map, List.getElem?_map, hj]
  rfl
section
variable {w w' : World} {Q : Nat -> Prop}
theorem compile_any {p : Pr} {T : List Tok} {vg vb : Value} {gs bs : List Value} (hg : SliceV Q w vg gs) (hG : GAll Q w gs p.globals) (hb : SliceV Q w vb bs) (hB : SAll Q w bs p.body) (hW : PrWh T p) (hT : T.length <= 601)
  (hd : ∀ g ∈ p.globals, DistG g) (hpl : ∀ k, k <= p.globals.length -> (cgAt p.globals k).places <= 1000000) (hbig : (cPr p).1.length <= 1000000) :
  Calls Tryz.prog 72 #[.agg #[vg, vb]] w (CodePost p w) := by
 have hg' := hg.weak (Q' := fun b => b < w.heap.size) (fun b _ h => h)
 have hG' := hG.weak (Q' := fun b => b < w.heap.size) (fun b _ h => h)
 have hb' := hb.weak (Q' := fun b => b < w.heap.size) (fun b _ h => h)
 have hB' := hB.weak (Q' := fun b => b < w.heap.size) (fun b _ h => h)
 obtain ⟨ga, gc, rfl⟩ := hg.len
 obtain ⟨ba, bc, rfl⟩ := hb.len
 have hgl := hG.1
 have hglen := hW.len
 have HGS : Hid (SliceV (fun b => b < w.heap.size) w (.slice ga gs.length gc) gs) := hg'
 have HGA : Hid (GAll (fun b => b < w.heap.size) w gs p.globals) := hG'
 have HBS : Hid (SliceV (fun b => b < w.heap.size) w (.slice ba bs.length bc) bs) := hb'
 have HBA : Hid (SAll (fun b => b < w.heap.size) w bs p.body) := hB'
 have HW : Hid (PrWh T p) := hW
 have HD : Hid (∀ g ∈ p.globals, DistG g) := hd
 have HPL : Hid (∀ k, k <= p.globals.length -> (cgAt p.globals k).places <= 1000000) := hpl
 have hWd : (cPr p).1 = (cgAt p.globals p.globals.length).words ++ cSts (ceTop (cgAt p.globals p.globals.length)) (cgAt p.globals p.globals.length).words.length p.body ++ [0] := by unfold cPr cgAt; rw [List.take_length]
 have hP1 : (cPr p).2.1 = (cgAt p.globals p.globals.length).words.length := by unfold cPr cgAt; rw [List.take_length]
 have hP2 : (cPr p).2.2 = (cgAt p.globals p.globals.length).places := by unfold cPr cgAt; rw [List.take_length]
 have hlw : (cPr p).1.length = (cgAt p.globals p.globals.length).words.length + (cSts (ceTop (cgAt p.globals p.globals.length)) (cgAt p.globals p.globals.length).words.length p.body).length + 1 := by rw [hWd, List.length_append, List.length_append]; rfl
 have HWL : Hid (∀ k, k <= p.globals.length -> (cgAt p.globals k).words.length <= 1000000) := fun k hk => by
  obtain ⟨t, ht⟩ := cg_words (G := p.globals) (i := k) p.globals.length hk (Nat.le_refl _)
  have : (cgAt p.globals p.globals.length).words.length = (cgAt p.globals k).words.length + t.length := by rw [ht]; simp
  omega
 have hmk := fun W => run_makeMap (P := Tryz.prog) 170 W
 clear hg hG hb hB hg' hG' hb' hB' hW hd hpl
 rw [hgl]
 rw [hgl] at HGS
 go_enter Tryz.func72, Tryz.ntmps72
 go_wp2
 have hTop := mk0 w #[.slice ga p.globals.length gc, .slice ba bs.length bc] #[.slice none 0 0, .int .i64 0, .int .i64 0] #[.slice none 0 0, .int .i64 0, .map (some (w.heap.size + 1 + 1)), .map none, .string ⟨#[]⟩] 117 134 173 rfl
 generalize hw4 : ((((w.alloc (.cells #[.slice ga p.globals.length gc, .slice ba bs.length bc] 117)).alloc (.cells #[.slice none 0 0, .int .i64 0, .int .i64 0] 134)).alloc (.map #[] 0)).alloc (.cells #[.slice none 0 0, .int .i64 0, .map (some (w.heap.size + 1 + 1)), .map none, .string ⟨#[]⟩] 173)) = w4 at *
 have k4 : Below w.heap.size w w4 := by
  rw [<- hw4]
  exact ((((Below.refl _ _).alloc (Nat.le_refl _) _).alloc (by simp) _).alloc (by simp <;> omega) _).alloc (by simp <;> omega) _
 have hs4 : w4.heap.size = w.heap.size + 4 := by rw [<- hw4]; simp
 have hq0 : ∀ o, w4.cell? ⟨w.heap.size, o, none⟩ = #[Value.slice ga p.globals.length gc, .slice ba bs.length bc][o]? := fun o => by
  rw [<- hw4, World.cell?_alloc_lt _ _ _ (by simp <;> omega), World.cell?_alloc_lt _ _ _ (by simp <;> omega), World.cell?_alloc_lt _ _ _ (by simp)]; exact World.cell?_alloc_new w _ _ o
 have hr0 : ∀ o, w4.cell? ⟨w.heap.size + 1, o, none⟩ = #[Value.slice none 0 0, .int .i64 0, .int .i64 0][o]? := fun o => by
  rw [<- hw4, World.cell?_alloc_lt _ _ _ (by simp <;> omega), World.cell?_alloc_lt _ _ _ (by simp)]
  have := World.cell?_alloc_new (w.alloc (.cells #[.slice ga p.globals.length gc, .slice ba bs.length bc] 117)) #[Value.slice none 0 0, .int .i64 0, .int .i64 0] 134 o
  rw [show (w.alloc (.cells #[.slice ga p.globals.length gc, .slice ba bs.length bc] 117)).heap.size = w.heap.size + 1 from by simp] at this
  exact this
 have hrz : ∀ o, w4.frozen? ⟨w.heap.size + 1, o, none⟩ = false := fun o => by
  have e1 : (w.alloc (.cells #[.slice ga p.globals.length gc, .slice ba bs.length bc] 117)).heap.size = w.heap.size + 1 := by simp
  have hB := ((Below.refl ((w.alloc (.cells #[.slice ga p.globals.length gc, .slice ba bs.length bc] 117)).alloc (.cells #[.slice none 0 0, .int .i64 0, .int .i64 0] 134)).heap.size ((w.alloc (.cells #[.slice ga p.globals.length gc, .slice ba bs.length bc] 117)).alloc (.cells #[.slice none 0 0, .int .i64 0, .int .i64 0] 134))).alloc (Nat.le_refl _) (.map #[] 0)).alloc (by simp) (.cells #[.slice none 0 0, .int .i64 0, .map (some (w.heap.size + 1 + 1)), .map none, .string ⟨#[]⟩] 173)
  rw [<- hw4, hB.frozen (p := ⟨w.heap.size + 1, o, none⟩) (by simp)]
  have := World.frozen?_alloc_new (w.alloc (.cells #[.slice ga p.globals.length gc, .slice ba bs.length bc] 117)) #[Value.slice none 0 0, .int .i64 0, .int .i64 0] 134 o
  rw [e1] at this
  exact this
 clear hw4 hmk
 rw [show w.heap.size + 2 = w.heap.size + 1 + 1 from rfl, show w.heap.size + 3 = w.heap.size + 1 + 1 + 1 from rfl] at hTop
 have HB4 : Hid (w.heap.size + 4 = w4.heap.size) := hs4.symm
 have hm1 : w.heap.size + 1 + 1 + 1 < w4.heap.size := by omega
 have hm2 : w.heap.size + 1 < w.heap.size + 1 + 1 := by omega
 have hm3 : w.heap.size + 1 + 1 < w.heap.size + 1 + 1 + 1 := by omega
 rw [HB4.out] at hTop
 clear hs4 HB4
 generalize w.heap.size + 1 + 1 + 1 = mb at *
 generalize w.heap.size + 1 + 1 = gm at *
 have hre : w.heap.size < w.heap.size + 1 := by omega
 generalize w.heap.size + 1 = rb at *
 have HQ : Hid (∀ b, b < w.heap.size -> b < w4.heap.size /\ b ≠ mb /\ b ≠ gm) := fun b hb => by omega
 have KQ : ∀ {wr : World}, GF w4.heap.size mb gm w4 wr -> KeepQ (fun b => b < w.heap.size) w wr := fun {wr} hF => ⟨Nat.le_trans k4.size hF.size, fun b hb hl => (hF.block b (Nat.lt_of_lt_of_le hl k4.size) (by omega)).trans (k4.block b hl)⟩
 have hqq : ∀ {wr : World}, GF w4.heap.size mb gm w4 wr -> ∀ o, wr.cell? ⟨w.heap.size, o, none⟩ = #[Value.slice ga p.globals.length gc, .slice ba bs.length bc][o]? := fun {wr} hF o => by
  rw [hF.cell (by omega) (by omega)]; exact hq0 o
 have hrr : ∀ {wr : World}, GF w4.heap.size mb gm w4 wr -> (∀ o, wr.cell? ⟨rb, o, none⟩ = #[Value.slice none 0 0, .int .i64 0, .int .i64 0][o]?) /\ (∀ o, wr.frozen? ⟨rb, o, none⟩ = false) := fun {wr} hF => ⟨fun o => by rw [hF.cell (by omega) (by omega)]; exact hr0 o, fun o => by rw [World.frozen?_of_block (w := w4) (hF.block rb (by omega) (by omega))]; exact hrz o⟩
 go_loopw [5, 13] (fun _ i wr => ∃ (j nl' : Nat) (v' : Value), i = .int .i64 j /\ j <= p.globals.length /\ MK w4.heap.size mb gm j nl' none wr (mkOf (cgAt p.globals j)) v' /\ GF w4.heap.size mb gm w4 wr) (fun _ i _ => p.globals.length - (intOf i).toNat)
 case atStart => exact ⟨0, 0, _, rfl, Nat.zero_le _, hTop, Fr.refl _ _⟩
 case round =>
  obtain ⟨j, nl', v', rfl, hj, hM, hF⟩ := hrel
  by_cases hlt2 : j < p.globals.length
  ·have hjv : j < gs.length := by omega
   have HGS2 : Hid (SliceV (fun b => b < w.heap.size) w (.slice ga gs.length gc) gs) := by rw [hgl]; exact HGS
   obtain ⟨b, cap, hv, hqb, hbl, hcell⟩ := HGS2.out.at hjv
   injection hv with hv1 hv2 hv3
   subst hv1 hv3
   clear hv2 HGS2
   have hcw : wr.cell? ⟨b, j, none⟩ = some gs[j] := by
    rw [hF.cell (Nat.lt_of_lt_of_le hbl k4.size) (by omega), World.cell?_of_block (w := w) (k4.block b hbl)]; exact hcell
   have hget : p.globals[j]? = some p.globals[j] := List.getElem?_eq_getElem hlt2
   have e2 : p.globals.getD j gl0 = p.globals[j] := by simp [List.getD, hlt2]
   have hcs := cgAt_succ (G := p.globals) hlt2
   rw [e2] at hcs
   have hX := mglobal_any hM ((HGA.out.2 j _ _ (List.getElem?_eq_getElem hjv) hget).keep (KQ hF)) HQ.out (HW.out.globals _ (List.getElem_mem hlt2)) hT (HD.out _ (List.getElem_mem hlt2)) (by unfold maxLen; omega) (by rw [<- hcs]; exact HPL.out (j + 1) hlt2) (by rw [<- hcs]; exact HWL.out (j + 1) hlt2)
   rw [<- hcs] at hX
   unfold GPo at hX
   clear hcell hget e2 hcs hTop HGS HGA HBS HBA HW HD HPL HWL hq0 hr0 hrz
   generalize gs[j] = vj at *
   go_wp2_with (go_at_call 99; refine hX.mono ?_; rintro e w5 ⟨rfl, v5, nl5, hM5, hF5⟩)
   go_roundw
   case rel => exact ⟨j + 1, nl5, v5, by go_num, by omega, hM5, hF.trans hF5⟩
   case measure => simp [intOf]; omega
  ·have ej : j = p.globals.length := by omega
   subst ej
   have hml : (mkOf (cgAt p.globals p.globals.length)).words.length = (cgAt p.globals p.globals.length).words.length := by unfold mkOf; simp
   have hlenW : ∀ ty W, (Builtin.len_ #[23] ty #[v']).run Tryz.prog W = .ok (.int .i64 (cgAt p.globals p.globals.length).words.length) W := by
    intro ty W
    obtain ⟨va, vc, hv⟩ := owned_slice hM.own
    rw [hv, <- hml]
    exact lenInts _ _ _ _ _
   have hwd := hM.wd
   have hq1 := hqq hF 1
   have hX := sl_any (E := ceTop (cgAt p.globals p.globals.length)) p.body (fun b => b < w.heap.size) wr (.slice ba bs.length bc) bs _ v' hM rfl (HBS.out.keep (KQ hF)) (HBA.out.keep (KQ hF)) (fun b hb => ⟨(HQ.out b hb).1, (HQ.out b hb).2.1⟩) HW.out.body.1 HW.out.body.2 (by rw [hml]; omega)
   rw [hml] at hX
   have L1 := fun W V (hM : MK w4.heap.size mb gm p.globals.length nl' none W ((mkOf (cgAt p.globals p.globals.length)).more ((cSts (ceTop (cgAt p.globals p.globals.length)) (cgAt p.globals p.globals.length).words.length p.body).map Int.ofNat)) V) => lay0 hM [0] 3 (by rw [more_len, hml, List.length_map]; simp; omega)
   have HE : Hid ((((mkOf (cgAt p.globals p.globals.length)).more ((cSts (ceTop (cgAt p.globals p.globals.length)) (cgAt p.globals p.globals.length).words.length p.body).map Int.ofNat)).more [0]).words = (cPr p).1.map Int.ofNat /\ (((mkOf (cgAt p.globals p.globals.length)).more ((cSts (ceTop (cgAt p.globals p.globals.length)) (cgAt p.globals p.globals.length).words.length p.body).map Int.ofNat)).more [0]).places = (cPr p).2.2) := by
    refine ⟨?_, ?_⟩
    ·rw [more_more, hWd]; unfold Mkr.more mkOf; simp
    ·rw [hP2]; rfl
   have HGF : Hid (GF w4.heap.size mb gm w4 wr) := hF
   have HMr : Hid (MK w4.heap.size mb gm p.globals.length nl' none wr (mkOf (cgAt p.globals p.globals.length)) v') := hM
   have hps : (cPr p).1.length ≠ 0 := by omega
   have HPS : Hid ((cPr p).1.length ≠ 0) := hps
   rw [<- hP1] at hlenW
   have hst : (cPr p).2.1 <= 1000000 := by rw [hP1]; omega
   unfold MPost at hX
   have HRR : Hid (∀ {wr : World}, GF w4.heap.size mb gm w4 wr -> (∀ o, wr.cell? ⟨rb, o, none⟩ = #[Value.slice none 0 0, .int .i64 0, .int .i64 0][o]?) /\ (∀ o, wr.frozen? ⟨rb, o, none⟩ = false)) := @hrr
   clear hM hF hTop HGS HGA HBS HBA HW HD HPL HWL hq0 hr0 hrz hqq hrr hlt2 hj hWd hlw hP1 hP2 hml hps hbig hglen
   generalize ((mkOf (cgAt p.globals p.globals.length)).more ((cSts (ceTop (cgAt p.globals p.globals.length)) (cgAt p.globals p.globals.length).words.length p.body).map Int.ofNat)).more [0] = M9 at *
   generalize (mkOf (cgAt p.globals p.globals.length)).more ((cSts (ceTop (cgAt p.globals p.globals.length)) (cgAt p.globals p.globals.length).words.length p.body).map Int.ofNat) = M8 at *
   generalize mkOf (cgAt p.globals p.globals.length) = M7 at *
   generalize hstv : (cPr p).2.1 = st at *
   go_wp2_with (first
    | (go_at_call 101; have _q := hM2; refine (L1 _ _ hM2).mono ?_; rintro e w3 ⟨rfl, v3, hM3, hv3⟩; have HG3 : Hid (GF w4.heap.size mb gm w4 w3) := HG2.out.trans (GF.of_mv hM2 hv3); have hc0 := hM3.wd; have hc1 := hM3.pl; obtain ⟨va, vc, hve, hvb, hvl⟩ := hM3.own.form (by rw [HE.out.1, List.length_map]; have := HPS.out; omega); have HOW : Hid _ := hM3.own; subst hve; obtain ⟨hrc, hrz⟩ := HRR.out HG3.out; have hrc0 := hrc 0; have hrc1 := hrc 1; have hrc2 := hrc 2; have hz0 := hrz 0; have hz1 := hrz 1; have hz2 := hrz 2; clear hrc hrz)
    | (go_at_call 100; refine hX.mono ?_; rintro e w2 ⟨rfl, v2, hM2, hv2⟩; have HG2 : Hid (GF w4.heap.size mb gm w4 w2) := HGF.out.trans (GF.of_mv HMr.out hv2)))
   go_region
   all_goals go_wp2
   all_goals refine bodyPost_ret (v := .agg #[.slice (some ⟨va, 0, none⟩) M9.words.length vc, .int .i64 (st : Nat), .int .i64 (M9.places : Nat)]) (by simp [results, Tryz.results72, go_sem, hrc0, hrc1, hrc2]) rfl ?_
   all_goals go_light
   all_goals refine code_post HE.out.1 HE.out.2 hstv HOW.out hvb hvl (by omega) hre (k4.trans ⟨HG3.out.os, HG3.out.tape, HG3.out.output, HG3.out.size, fun k hk => HG3.out.block k (by have := k4.size; omega) (by have := k4.size; omega)⟩)
end
end Go.Proofs.YtklobognaldjpaaGreat
