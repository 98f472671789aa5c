/- The program's look at names: what is global. The program's look at names: procs, funcs; any global. Plain: what Check answers, of a text. The program's look at names, whole. -/
import Derived.Test.YtklobognaldjpaaGreatCLk9
import Derived.Deep.CutRange
import Derived.Test.YtklobognaldjpaaGreatCLk10
import Derived.Test.YtklobognaldjpaaGreatCLook5
set_option maxRecDepth 100000
set_option maxHeartbeats 2000000
namespace Go.Proofs.YtklobognaldjpaaGreat
open Go.RowKit
section
variable {lb gm ng nl : Nat} {lm : Option Nat} {w w' : World} {c : Nat × Nat} {L : PEnv} {E : Env} {Q : Nat -> Prop}
theorem dpost_top {r : Env × Option (Nat × Nat)} {W : World} {e : Ending} (h : DPost lb gm (ng + 1) 0 none ⟨#[]⟩ gm r c W e w') (h1 : r.1.inside = none) (h2 : r.1.here = []) (hW : Below w.heap.size w W) : GPost lb gm ng r c w e w' := by
 obtain ⟨rfl, L', hP, hr, hres, hF, hl⟩ := h
 refine ⟨rfl, ⟨L', hP, fun h0 => ?_, hres, hl rfl, h1, h2⟩, (Fr.of_below hW).trans hF⟩
 have := hr h0
 rw [noRes_id hres] at this
 exact this
theorem lg_var (h : Top lb gm ng w c L E) (hng : ng + 1 < maxLen) (n : ByteArray) (p : Nat) (hO : NmOk n) :
  Calls Tryz.prog 120 #[.pointer (some ⟨lb, 0, none⟩), .iface 212 (.agg #[.string n, .int .i64 p])] w (GPost lb gm ng (lookGl E (.var n p)) c w) := by
 have hlt := h.pl.lt
 have hn : n.size <= maxLen := by have := hO.2; unfold maxLen; omega
 have k1 : ∀ A, Below w.heap.size w (w.alloc A) := fun A => (Below.refl _ _).alloc (Nat.le_refl _) _
 have hD : ∀ A, Calls Tryz.prog 147 #[.pointer (some ⟨lb, 0, none⟩), .map (some gm), .agg #[.string n, .int .i64 p], symV (1, 0)] (w.alloc A).drew (GPost lb gm ng (lookGl E (.var n p)) c w) := fun A => by
  refine (decl_glob (h.pl.below (k1 A).drew) (by rw [noRes_id h.res]; exact h.rep) h.ins (by omega) hn p 0 0 (fun _ => h.l)).mono ?_
  intro e w' hd
  rw [h.res] at hd
  exact dpost_top hd ((declF_inside _ _ _ _ _ _).trans h.ins) ((declF_here _ _ _ _ _).trans h.here) (k1 A).drew
 unfold symV at hD
 have hcg : ∀ A, (w.alloc A).cell? ⟨lb, 2, none⟩ = some (.map (some gm)) := fun A => (h.pl.below (k1 A)).gl
 clear h
 generalize lookGl E (.var n p) = g9 at *
 go_enter Tryz.func120, Tryz.ntmps120
 go_wp2
 go_region_with (go_at_call 147; refine (hD _).mono ?_; rintro e w2 ⟨rfl, hT2, hF2⟩)
 all_goals go_wp2
 all_goals go_end0
 all_goals exact ⟨rfl, hT2, hF2⟩
theorem lg_arr (h : Top lb gm ng w c L E) (hng : ng + 1 < maxLen) (n : ByteArray) (p size at_ : Nat) (hO : NmOk n) :
  Calls Tryz.prog 120 #[.pointer (some ⟨lb, 0, none⟩), .iface 215 (.agg #[.string n, .int .i64 p, .int .i64 size, .int .i64 at_])] w (GPost lb gm ng (lookGl E (.arr n p size at_)) c w) := by
 have hlt := h.pl.lt
 have hgt := h.pl.gmap.lt
 have hn : n.size <= maxLen := by have := hO.2; unfold maxLen; omega
 have k1 : ∀ A, Below w.heap.size w (w.alloc A) := fun A => (Below.refl _ _).alloc (Nat.le_refl _) _
 have hD : ∀ A, Calls Tryz.prog 147 #[.pointer (some ⟨lb, 0, none⟩), .map (some gm), .agg #[.string n, .int .i64 p], symV (2, 0)] (w.alloc A).drew (GPost lb gm ng (declF E false n p 1 0) c (w.alloc A)) := fun A => by
  refine (decl_glob (h.pl.below (k1 A).drew) (by rw [noRes_id h.res]; exact h.rep) h.ins (by omega) hn p 1 0 (fun _ => h.l)).mono ?_
  intro e w' hd
  rw [h.res] at hd
  exact dpost_top hd ((declF_inside _ _ _ _ _ _).trans h.ins) ((declF_here _ _ _ _ _).trans h.here) (Below.refl _ _).drew
 unfold symV at hD
 have hcg : ∀ A, (w.alloc A).cell? ⟨lb, 2, none⟩ = some (.map (some gm)) := fun A => (h.pl.below (k1 A)).gl
 have HE : Hid (lookGl E (.arr n p size at_) = ((declF E false n p 1 0).1, (declF E false n p 1 0).2.or (sizeF size at_))) := rfl
 have HN : Hid (Nz (declF E false n p 1 0).2) := nz_declF _ _ _ _ _ _
 clear h
 generalize declF E false n p 1 0 = d1 at *
 go_enter Tryz.func120, Tryz.ntmps120
 go_upto_region 6 with fail
 go_cut [] from 24 to 32 (fun wx => ∃ A, A = .cells #[.string n, .int .i64 p, .int .i64 size, .int .i64 at_] 215 /\ (∃ L', Top lb gm (ng + 1) wx (tellF d1.2 c) L' d1.1) /\ Fr (fun b => b = lb ∨ b = gm) (w.alloc A) wx)
 case first =>
  go_region_with (go_at_call 147; refine (hD _).mono ?_; rintro e w2 ⟨rfl, hT2, hF2⟩)
  all_goals (go_wp2_with fail; go_meet; exact ⟨_, rfl, hT2, hF2⟩)
 case rest =>
  obtain ⟨A, hA, ⟨L2, hT2⟩, hF2⟩ := hcut
  have q : ∀ o, wc.cell? ⟨w.heap.size, o, none⟩ = #[Value.string n, .int .i64 p, .int .i64 size, .int .i64 at_][o]? := fun o => by
   rw [hF2.cell (by simp) (by simp; omega), hA]; exact World.cell?_alloc_new w _ _ o
  have q2 := q 2
  have q3 := q 3
  have hP2 := hT2.pl
  have hl2 := hP2.lt
  have hT := ltell_any (hP2.below (Below.refl _ _).drew) 3 at_
  have hF2' : Fr (fun b => b = lb ∨ b = gm) w wc := (Fr.of_below (k1 A)).trans hF2
  have HT : Hid (Top lb gm (ng + 1) wc (tellF d1.2 c) L2 d1.1) := hT2
  clear hA hD hT2
  generalize hc1 : tellF d1.2 c = c1 at *
  by_cases hz : size < 1 ∨ 20 < size
  ·have HZ : Hid (sizeF size at_ = some (3, at_)) := by show _ = _; unfold sizeF; rw [if_pos hz]
   have HC : Hid (tellF (lookGl E (.arr n p size at_)).2 c = tellF (some (3, at_)) c1) := by
    show _ = _; rw [HE.out, <- hc1, <- HZ.out, tellF_or _ _ HN.out]
   have HF : Hid (∀ w3, PL lb gm (ng + 1) 0 none w3 (tellF (some (3, at_)) c1) L2 -> Par lb wc.drew w3 -> GPost lb gm ng (lookGl E (.arr n p size at_)) c w (.returned (.tuple #[])) w3) := fun w3 hP3 hk3 => by
    refine ⟨rfl, ⟨L2, ?_⟩, (hF2'.trans (Fr.of_below (Below.refl _ _).drew)).trans (Fr.of_par hk3 (.inl rfl))⟩
    rw [HC.out]
    exact ⟨hP3, fun h0 => (by have := (tell_none_of (f := some (3, at_)) (fun x hx => by cases hx; simp) h0).2; cases this), HT.out.res, HT.out.l, by rw [HE.out]; exact HT.out.ins, by rw [HE.out]; exact HT.out.here⟩
   generalize tellF (some (3, at_)) c1 = c2 at *
   by_cases hz1 : size < 1
   ·have hb1 : decide ((size : Int) < 1) = true := by simp; omega
    go_wp2
    go_region_with (go_at_call 148; refine hT.mono ?_; rintro e w3 ⟨rfl, hP3, hk3⟩)
    all_goals go_wp2
    all_goals go_end0
    all_goals exact HF.out _ hP3 hk3
   ·have hb1 : decide ((size : Int) < 1) = false := by simp; omega
    have hb2 : decide ((20 : Int) < (size : Int)) = true := by simp; omega
    go_wp2
    go_region_with (go_at_call 148; refine hT.mono ?_; rintro e w3 ⟨rfl, hP3, hk3⟩)
    all_goals go_wp2
    all_goals go_end0
    all_goals exact HF.out _ hP3 hk3
  ·have HZ : Hid (sizeF size at_ = none) := by show _ = _; unfold sizeF; rw [if_neg hz]
   have hb1 : decide ((size : Int) < 1) = false := by simp; omega
   have hb2 : decide ((20 : Int) < (size : Int)) = false := by simp; omega
   have HC : Hid (tellF (lookGl E (.arr n p size at_)).2 c = c1) := by
    show _ = _; rw [HE.out, <- hc1]; show tellF (d1.2.or (sizeF size at_)) c = _; rw [HZ.out]; cases d1.2 <;> rfl
   go_wp2
   go_end0
   refine ⟨rfl, ⟨L2, ?_⟩, hF2'⟩
   rw [HC.out, HE.out]; exact HT.out
end
section
variable {lb gm ng nl : Nat} {lm : Option Nat} {w w' : World} {c : Nat × Nat} {L : PEnv} {E : Env} {Q : Nat -> Prop}
theorem Top.below (h : Top lb gm ng w c L E) (hb : Below w.heap.size w w') : Top lb gm ng w' c L E := ⟨h.pl.below hb, h.rep, h.res, h.l, h.ins, h.here⟩
theorem keepB (hb : Below w.heap.size w w') : KeepQ Q w w' := ⟨hb.size, fun b _ hl => hb.block b hl⟩
theorem GPost.from {r : Env × Option (Nat × Nat)} {W : World} {e : Ending} (h : GPost lb gm ng r c W e w') (hb : Below w.heap.size w W) : GPost lb gm ng r c w e w' := ⟨h.1, h.2.1, (Fr.of_below hb).trans h.2.2⟩
theorem lg_proc (h : Top lb gm ng w c L E) (hng : ng + 1 < maxLen) (r : Ro) {vp vl vb : Value} {vs : List Value} (hp : SliceN Q w vp r.params) (hl : SliceN Q w vl r.locals) (hb : SliceV Q w vb vs) (hA : SAll Q w vs r.body)
  (hQ : ∀ b, Q b -> b ≠ lb /\ b ≠ gm) (hO : OkRo r) (hlen : r.params.length + r.locals.length <= 601) :
  Calls Tryz.prog 120 #[.pointer (some ⟨lb, 0, none⟩), .iface 220 (.agg #[.string r.name.1, .int .i64 r.name.2, vp, vl, vb])] w (GPost lb gm ng (lookGl E (.proc r)) c w) := by
 have hlt := h.pl.lt
 have k1 : ∀ A, Below w.heap.size w (w.alloc A) := fun A => (Below.refl _ _).alloc (Nat.le_refl _) _
 have hD : ∀ A, Calls Tryz.prog 149 #[.pointer (some ⟨lb, 0, none⟩), .agg #[.string r.name.1, .int .i64 r.name.2, vp, vl, vb], .int .i64 3, .string ⟨#[]⟩] (w.alloc A) (GPost lb gm ng (lookGl E (.proc r)) c w) := fun A =>
  (lroutine_any (h.below (k1 A)) hng 2 r (hp.keep (keepB (k1 A))) (hl.keep (keepB (k1 A))) (hb.keep (keepB (k1 A))) (hA.keep (keepB (k1 A))) hQ hO hlen ⟨#[]⟩ (by simp)).mono fun e w' hg => GPost.from hg (k1 A)
 obtain ⟨pa, pc, rfl⟩ := hp.len
 obtain ⟨la, lc, rfl⟩ := hl.len
 obtain ⟨ba, bc, rfl⟩ := hb.len
 clear hp hl hb hA hlen hO h
 generalize lookGl E (.proc r) = g9 at *
 go_enter Tryz.func120, Tryz.ntmps120
 go_wp2_with (go_at_call 149; refine (hD _).mono ?_; rintro e w2 ⟨rfl, hT2, hF2⟩)
 go_end0
 exact ⟨rfl, hT2, hF2⟩
theorem lg_func (h : Top lb gm ng w c L E) (hng : ng + 1 < maxLen) (r : Ro) {vp vl vb : Value} {vs : List Value} (hp : SliceN Q w vp r.params) (hl : SliceN Q w vl r.locals) (hb : SliceV Q w vb vs) (hA : SAll Q w vs r.body)
  (hQ : ∀ b, Q b -> b ≠ lb /\ b ≠ gm) (hO : OkRo r) (hlen : r.params.length + r.locals.length <= 601) :
  Calls Tryz.prog 120 #[.pointer (some ⟨lb, 0, none⟩), .iface 222 (.agg #[.string r.name.1, .int .i64 r.name.2, vp, vl, vb])] w (GPost lb gm ng (lookGl E (.func r)) c w) := by
 have hlt := h.pl.lt
 have k1 : ∀ A, Below w.heap.size w (w.alloc A) := fun A => (Below.refl _ _).alloc (Nat.le_refl _) _
 have hD : ∀ A, Calls Tryz.prog 149 #[.pointer (some ⟨lb, 0, none⟩), .agg #[.string r.name.1, .int .i64 r.name.2, vp, vl, vb], .int .i64 4, .string r.name.1] (w.alloc A) (GPost lb gm ng (lookGl E (.func r)) c w) := fun A =>
  (lroutine_any (h.below (k1 A)) hng 3 r (hp.keep (keepB (k1 A))) (hl.keep (keepB (k1 A))) (hb.keep (keepB (k1 A))) (hA.keep (keepB (k1 A))) hQ hO hlen r.name.1 (by simp)).mono fun e w' hg => GPost.from hg (k1 A)
 obtain ⟨pa, pc, rfl⟩ := hp.len
 obtain ⟨la, lc, rfl⟩ := hl.len
 obtain ⟨ba, bc, rfl⟩ := hb.len
 clear hp hl hb hA hlen hO h
 generalize lookGl E (.func r) = g9 at *
 go_enter Tryz.func120, Tryz.ntmps120
 go_wp2_with (go_at_call 149; refine (hD _).mono ?_; rintro e w2 ⟨rfl, hT2, hF2⟩)
 go_end0
 exact ⟨rfl, hT2, hF2⟩
theorem lg_any (h : Top lb gm ng w c L E) (hng : ng + 1 < maxLen) {T : List Tok} (hT : T.length <= 601) {g : Gl} {v : Value} (hR : RGl Q w v g) (hQ : ∀ b, Q b -> b ≠ lb /\ b ≠ gm) (hO : GlOk T g) :
  Calls Tryz.prog 120 #[.pointer (some ⟨lb, 0, none⟩), v] w (GPost lb gm ng (lookGl E g) c w) := by
 cases hR with
 | var n p => exact lg_var h hng n p hO.1
 | arr n p s a => exact lg_arr h hng n p s a hO.1
 | proc r h1 h2 h3 h4 => exact lg_proc h hng r h1 h2 h3 h4 hQ hO.1 (Nat.le_trans hO.2 hT)
 | func r h1 h2 h3 h4 => exact lg_func h hng r h1 h2 h3 h4 hQ hO.1 (Nat.le_trans hO.2 hT)
theorem lookGls_take : ∀ (l : List Gl) (E : Env) (j : Nat) (g : Gl), l[j]? = some g ->
  lookGls E (l.take (j + 1)) = ((lookGl (lookGls E (l.take j)).1 g).1, (lookGls E (l.take j)).2.or (lookGl (lookGls E (l.take j)).1 g).2)
 | [], E, j, g, h => by simp at h
 | a :: l, E, 0, g, h => by
  simp at h; subst h
  rw [List.take_succ_cons, List.take_zero, List.take_zero, lookGls, lookGls, lookGls]
  cases (lookGl E a).2 <;> rfl
 | a :: l, E, j + 1, g, h => by
  rw [List.take_succ_cons, List.take_succ_cons, lookGls, lookGls, lookGls_take l _ j g (by simpa using h)]
  cases (lookGl E a).2 <;> rfl
end
def env0 : Env := ⟨[], [], none, false⟩
def checkP (l : List UInt8) : Nat × Nat :=
 if 600 < l.length then (1, 0)
 else match lexAll l with
  | .error x => x
  | .ok T =>
   if (programP T ⟨0, 0, 0⟩).2.code = 0 then (match lookPr env0 (programP T ⟨0, 0, 0⟩).1 with | none => (0, 0) | some x => x)
   else ((programP T ⟨0, 0, 0⟩).2.code, (programP T ⟨0, 0, 0⟩).2.at_)
theorem lexAt_len (l : List UInt8) : ∀ (k q : Nat) (T : List Tok), l.length - q <= k -> lexAt l q = .ok T -> T.length <= l.length - q + 1 /\ Toks T
 | 0, q, T, hk, h => by
  rw [lexAt_end (by omega)] at h
  cases h
  exact ⟨by simp, ⟨by simp, fun t ht => by simp at ht; subst ht; exact ⟨rfl, by show (bs []).toList = []; rw [bsl']⟩⟩⟩
 | k + 1, q, T, hk, h => by
  by_cases hq : q < l.length
  ·cases hx : lex1 (l.drop q) with
   | error c => rw [lexAt_bad hq hx] at h; cases h
   | ok x =>
    rw [lexAt_ok hq hx] at h
    have hp := lex1_pos (k := x.1) (n := x.2.1) (v := x.2.2) hx
    have hg := gap_ge l (q + x.2.1)
    cases hr : lexAt l (gap l (q + x.2.1)) with
    | error e => rw [hr] at h; cases h
    | ok r =>
     rw [hr] at h
     cases h
     obtain ⟨ih1, ih2⟩ := lexAt_len l k (gap l (q + x.2.1)) r (by omega) hr
     have hpos := ih2.pos
     refine ⟨by simp; omega, ⟨by simp, fun t ht => ?_⟩⟩
     refine ih2.last t ?_
     rw [List.length_cons, show r.length + 1 - 1 = (r.length - 1) + 1 from by omega, List.getElem?_cons_succ] at ht
     exact ht
  ·rw [lexAt_end hq] at h
   cases h
   exact ⟨by simp, ⟨by simp, fun t ht => by simp at ht; subst ht; exact ⟨rfl, by show (bs []).toList = []; rw [bsl']⟩⟩⟩
theorem lex1_err {l : List UInt8} {c : Nat} (h : lex1 l = .error c) : c ≠ 0 := by
 unfold lex1 at h
 split at h
 ·cases h; decide
 ·split at h
  ·cases h
  ·split at h
   ·split at h
    ·cases h; decide
    ·cases h
   ·split at h
    ·cases h
    ·split at h
     ·cases h
     ·cases h; decide
theorem lexAt_err (l : List UInt8) : ∀ (k q : Nat) (x : Nat × Nat), l.length - q <= k -> lexAt l q = .error x -> x.1 ≠ 0
 | 0, q, x, hk, h => by rw [lexAt_end (by omega)] at h; cases h
 | k + 1, q, x, hk, h => by
  by_cases hq : q < l.length
  ·cases hx : lex1 (l.drop q) with
   | error c => rw [lexAt_bad hq hx] at h; cases h; exact lex1_err hx
   | ok y =>
    rw [lexAt_ok hq hx] at h
    have hp := lex1_pos (k := y.1) (n := y.2.1) (v := y.2.2) hx
    have hg := gap_ge l (q + y.2.1)
    cases hr : lexAt l (gap l (q + y.2.1)) with
    | error e => rw [hr] at h; cases h; exact lexAt_err l k _ _ (by omega) hr
    | ok r => rw [hr] at h; cases h
  ·rw [lexAt_end hq] at h; cases h
theorem lexAll_err {l : List UInt8} {c q : Nat} (h : lexAll l = .error (c, q)) : c ≠ 0 := lexAt_err l _ _ (c, q) (Nat.le_refl _) h
section
variable {w w' : World} {Q : Nat -> Prop}
theorem top0 (w : World) (A B : Array Value) (t : TypeId) (u : TypeId) (hB : B = #[.int .i64 0, .int .i64 0, .map (some (w.heap.size + 1)), .map none, .string ⟨#[]⟩]) :
  Top (w.heap.size + 2) (w.heap.size + 1) 0 (((w.alloc (.cells A t)).alloc (.map #[] 0)).alloc (.cells B u)) (0, 0) ⟨fun _ => (0, 0), fun _ => (0, 0), ⟨#[]⟩⟩ env0 := by
 have e1 : (w.alloc (.cells A t)).heap.size = w.heap.size + 1 := by simp
 have e2 : ((w.alloc (.cells A t)).alloc (.map #[] 0)).heap.size = w.heap.size + 2 := by simp
 have hc : ∀ o, (((w.alloc (.cells A t)).alloc (.map #[] 0)).alloc (.cells B u)).cell? ⟨w.heap.size + 2, o, none⟩ = B[o]? := fun o => by
  rw [<- e2]; exact World.cell?_alloc_new _ B u o
 have hM : MapIs (((w.alloc (.cells A t)).alloc (.map #[] 0)).alloc (.cells B u)) (w.heap.size + 1) 0 (fun _ => (0, 0)) := by
  have h0 := mapIs_made (w.alloc (.cells A t))
  rw [e1] at h0
  exact h0.block (Below.heap_alloc _ _ _ (by rw [e2]; omega))
 refine ⟨⟨?_, ?_, ?_, ?_, ?_, ?_, hM, fun b hb => (by cases hb), fun _ _ => rfl, by omega, fun b hb => (by cases hb)⟩, fun _ => ⟨fun n => rfl, fun n => rfl, rfl, fun y hy => (by cases hy)⟩, rfl, rfl, rfl, rfl⟩
 ·rw [hc, hB]; rfl
 ·rw [hc, hB]; rfl
 ·rw [hc, hB]; rfl
 ·rw [hc, hB]; rfl
 ·rw [hc, hB]; rfl
 ·intro o
  rw [<- e2]; exact World.frozen?_alloc_new _ B u o
def LookPost (p : Pr) (w : World) (e : Ending) (w' : World) : Prop :=
 e = .returned (.tuple #[.int .i64 (tellF (lookPr env0 p) (0, 0)).1, .int .i64 (tellF (lookPr env0 p) (0, 0)).2]) /\ Below w.heap.size w w'
theorem look_any {T : List Tok} (hT : T.length <= 601) {p : Pr} {vg vb : Value} {gs bs : List Value} (hg : SliceV Q w vg gs) (hG : GAll Q w gs p.globals) (hb : SliceV Q w vb bs) (hB : SAll Q w bs p.body) (hO : PrOk T p) :
  Calls Tryz.prog 87 #[.agg #[vg, vb]] w (LookPost p w) := by
 have hg' := hg.weak (Q' := fun b => b < w.heap.size) (fun b _ h => h)
 have hG' := hG.weak (Q' := fun b => b < w.heap.size) (fun b _ h => h)
 have hb' := hb.weak (Q' := fun b => b < w.heap.size) (fun b _ h => h)
 have hB' := hB.weak (Q' := fun b => b < w.heap.size) (fun b _ h => h)
 obtain ⟨ga, gc, rfl⟩ := hg.len
 obtain ⟨ba, bc, rfl⟩ := hb.len
 have hgl := hG.1
 have HGS : Hid (SliceV (fun b => b < w.heap.size) w (.slice ga gs.length gc) gs) := hg'
 have HGA : Hid (GAll (fun b => b < w.heap.size) w gs p.globals) := hG'
 have HBS : Hid (SliceV (fun b => b < w.heap.size) w (.slice ba bs.length bc) bs) := hb'
 have HBA : Hid (SAll (fun b => b < w.heap.size) w bs p.body) := hB'
 have HO : Hid (PrOk T p) := hO
 have hlen := hO.len
 have hmk := fun W => run_makeMap (P := Tryz.prog) 201 W
 clear hg hG hb hB hg' hG' hb' hB' hO
 rw [hgl]
 rw [hgl] at HGS
 go_enter Tryz.func87, Tryz.ntmps87
 go_wp2
 have hTop := top0 w #[.slice ga p.globals.length gc, .slice ba bs.length bc] #[.int .i64 0, .int .i64 0, .map (some (w.heap.size + 1)), .map none, .string ⟨#[]⟩] 117 203 rfl
 have k3 : Below w.heap.size w (((w.alloc (.cells #[.slice ga p.globals.length gc, .slice ba bs.length bc] 117)).alloc (.map #[] 0)).alloc (.cells #[.int .i64 0, .int .i64 0, .map (some (w.heap.size + 1)), .map none, .string ⟨#[]⟩] 203)) := (((Below.refl _ _).alloc (Nat.le_refl _) _).alloc (by simp) _).alloc (by simp; omega) _
 have hq0 : ∀ o, (((w.alloc (.cells #[.slice ga p.globals.length gc, .slice ba bs.length bc] 117)).alloc (.map #[] 0)).alloc (.cells #[.int .i64 0, .int .i64 0, .map (some (w.heap.size + 1)), .map none, .string ⟨#[]⟩] 203)).cell? ⟨w.heap.size, o, none⟩ = #[Value.slice ga p.globals.length gc, .slice ba bs.length bc][o]? := fun o => by
  rw [World.cell?_alloc_lt _ _ _ (by simp; omega), World.cell?_alloc_lt _ _ _ (by simp)]; exact World.cell?_alloc_new w _ _ o
 have hs3 : w.heap.size < (((w.alloc (.cells #[.slice ga p.globals.length gc, .slice ba bs.length bc] 117)).alloc (.map #[] 0)).alloc (.cells #[.int .i64 0, .int .i64 0, .map (some (w.heap.size + 1)), .map none, .string ⟨#[]⟩] 203)).heap.size := by simp; omega
 rw [show w.heap.size + 2 = w.heap.size + 1 + 1 from rfl] at hTop
 generalize (((w.alloc (.cells #[.slice ga p.globals.length gc, .slice ba bs.length bc] 117)).alloc (.map #[] 0)).alloc (.cells #[.int .i64 0, .int .i64 0, .map (some (w.heap.size + 1)), .map none, .string ⟨#[]⟩] 203)) = w3 at *
 have hlb0 : w.heap.size < w.heap.size + 1 + 1 := by omega
 have hgm0 : w.heap.size < w.heap.size + 1 := by omega
 generalize w.heap.size + 1 + 1 = lb at *
 generalize w.heap.size + 1 = gm at *
 have KQ : ∀ {wr : World}, Fr (fun b => b = lb ∨ b = gm) w3 wr -> KeepQ (fun b => b < w.heap.size) w wr := fun {wr} hF => ⟨Nat.le_trans k3.size hF.size, fun b hb hl => (hF.block b (Nat.lt_of_lt_of_le hl k3.size) (by simp; omega)).trans (k3.block b hl)⟩
 have hqq : ∀ {wr : World}, Fr (fun b => b = lb ∨ b = gm) w3 wr -> ∀ o, wr.cell? ⟨w.heap.size, o, none⟩ = #[Value.slice ga p.globals.length gc, .slice ba bs.length bc][o]? := fun {wr} hF o => by
  rw [hF.cell hs3 (by simp; omega)]; exact hq0 o
 clear hmk
 go_loopw [6, 13] (fun _ i wr => ∃ (j : Nat) (L' : PEnv), i = .int .i64 j /\ j <= p.globals.length /\ Top lb gm j wr (tellF (lookGls env0 (p.globals.take j)).2 (0, 0)) L' (lookGls env0 (p.globals.take j)).1 /\ Fr (fun b => b = lb ∨ b = gm) w3 wr) (fun _ i _ => p.globals.length - (intOf i).toNat)
 case atStart => exact ⟨0, _, rfl, Nat.zero_le _, by rw [List.take_zero, lookGls, tellF_none]; exact hTop, Fr.refl _ _⟩
 case round =>
  obtain ⟨j, L', rfl, hj, hTj, hFj⟩ := hrel
  by_cases hlt2 : j < p.globals.length
  ·have hjv : j < gs.length := by omega
   have HGS2 : Hid (SliceV (fun b => b < w.heap.size) w (.slice ga gs.length gc) gs) := by rw [hgl]; exact HGS
   obtain ⟨b, cap, hv, hqb, hbl, hcell⟩ := HGS2.out.at hjv
   injection hv with hv1 hv2 hv3
   subst hv1 hv3
   clear hv2 HGS2
   have hcw : wr.cell? ⟨b, j, none⟩ = some gs[j] := ((hFj.cell (Nat.lt_of_lt_of_le hbl k3.size) (by simp; omega) j).trans (k3.cell (p := ⟨b, j, none⟩) hbl)).trans hcell
   have he : p.globals[j]? = some p.globals[j] := List.getElem?_eq_getElem hlt2
   have hX := lg_any hTj (by unfold maxLen; omega) hT ((HGA.out.2 j _ _ (List.getElem?_eq_getElem hjv) he).keep (KQ hFj)) (fun b hb => by constructor <;> omega) (HO.out.globals _ (List.getElem_mem hlt2))
   have HS : Hid (∀ w' , (∃ L', Top lb gm (j + 1) w' (tellF (lookGl (lookGls env0 (p.globals.take j)).1 p.globals[j]).2 (tellF (lookGls env0 (p.globals.take j)).2 (0, 0))) L' (lookGl (lookGls env0 (p.globals.take j)).1 p.globals[j]).1) -> ∃ L', Top lb gm (j + 1) w' (tellF (lookGls env0 (p.globals.take (j + 1))).2 (0, 0)) L' (lookGls env0 (p.globals.take (j + 1))).1) := fun w' h => by
    rw [tellF_or _ _ (nz_lookGls _ _)] at h
    rw [lookGls_take _ _ _ _ he]; exact h
   have hwl := hTj.pl.lt
   clear hcell hTj
   generalize gs[j] = vj at *
   go_wp2_with (go_at_call 120; refine hX.mono ?_; rintro e w5 ⟨rfl, hT5, hF5⟩)
   go_roundw
   case rel =>
    obtain ⟨L5, h5⟩ := HS.out _ hT5
    exact ⟨j + 1, L5, by go_num, by omega, h5, hFj.trans hF5⟩
   case measure => simp [intOf]; omega
  ·have ej : j = p.globals.length := by omega
   rw [ej, List.take_length] at hTj
   subst ej
   have q1 := hqq hFj 1
   have hP := hTj.pl
   have hwl := hP.lt
   have hLL := ll_any p.body _ wr _ bs _ hP hTj.rep (HBS.out.keep (KQ hFj)) (HBA.out.keep (KQ hFj)) (fun b hb => by omega) HO.out.body.1 HO.out.body.2
   have HC : Hid (tellF (lookPr env0 p) (0, 0) = tellF (lookSts (lookGls env0 p.globals).1 p.body) (tellF (lookGls env0 p.globals).2 (0, 0))) := by
    show _ = _; unfold lookPr; rw [tellF_or _ _ (nz_lookGls _ _)]
   generalize hc9 : tellF (lookSts (lookGls env0 p.globals).1 p.body) (tellF (lookGls env0 p.globals).2 (0, 0)) = c9 at *
   clear hTop
   go_wp2_with (go_at_call 121; refine hLL.mono ?_; rintro e w7 ⟨rfl, hP7, hk7⟩; have hc7 := hP7.code; have ha7 := hP7.at_; have hl7 := hP7.lt)
   go_quiet (fail)
   go_wp2
   have hfin := hFj.trans (Fr.of_par hk7 (.inl rfl))
   have hbel : Below w.heap.size w w7 := ⟨hfin.os.trans k3.os, hfin.tape.trans k3.tape, hfin.output.trans k3.output, Nat.le_trans k3.size hfin.size, fun k hk => (hfin.block k (Nat.lt_of_lt_of_le hk k3.size) (by simp; omega)).trans (k3.block k hk)⟩
   refine bodyPost_ret (v := .tuple #[.int .i64 (c9.1 : Nat), .int .i64 (c9.2 : Nat)]) (by simp [results, Tryz.results87, go_sem]) rfl ⟨by rw [HC.out], hbel.trans (Below.drewN' _ _)⟩
end
end Go.Proofs.YtklobognaldjpaaGreat
