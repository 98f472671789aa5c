/- The program's look at names: what is global. The program's look at names: procs, funcs; any global. -/
import Derived.Test.YtklobognaldjpaaGreatCLk9
import Derived.Deep.CutRange
import Derived.Test.YtklobognaldjpaaGreatCLk10
namespace Go.Proofs.YtklobognaldjpaaGreat
open Go.RowKit

section
variable {lb gm ng nl : Nat} {lm : Option Nat} {w w' : World} {c : Nat × Nat} {L : PEnv} {E : Env} {Q : Nat → Prop}

theorem dpost_top {r : Env × Option (Nat × Nat)} {W : World} {e : Ending} (h : DPost lb gm (ng + 1) 0 none ⟨#[]⟩ gm r c W e w') (h1 : r.1.inside = none) (h2 : r.1.here = []) (hW : Below w.heap.size w W) : GPost lb gm ng r c w e w' := by
  obtain ⟨rfl, L', hP, hr, hres, hF, hl⟩ := h
  refine ⟨rfl, ⟨L', hP, fun h0 => ?_, hres, hl rfl, h1, h2⟩, (Fr.of_below hW).trans hF⟩
  have := hr h0
  rw [noRes_id hres] at this
  exact this

set_option maxRecDepth 100000 in
set_option maxHeartbeats 2000000 in
theorem lg_var (h : Top lb gm ng w c L E) (hng : ng + 1 < maxLen) (n : ByteArray) (p : Nat) (hO : NmOk n) :
    Calls Tryz.prog 120 #[.pointer (some ⟨lb, 0, none⟩), .iface 212 (.agg #[.string n, .int .i64 p])] w (GPost lb gm ng (lookGl E (.var n p)) c w) := by
  have hlt := h.pl.lt
  have hn : n.size ≤ maxLen := by have := hO.2; unfold maxLen; omega
  have k1 : ∀ A, Below w.heap.size w (w.alloc A) := fun A => (Below.refl _ _).alloc (Nat.le_refl _) _
  have hD : ∀ A, Calls Tryz.prog 147 #[.pointer (some ⟨lb, 0, none⟩), .map (some gm), .agg #[.string n, .int .i64 p], symV (1, 0)] (w.alloc A).drew (GPost lb gm ng (lookGl E (.var n p)) c w) := fun A => by
    refine (decl_glob (h.pl.below (k1 A).drew) (by rw [noRes_id h.res]; exact h.rep) h.ins (by omega) hn p 0 0 (fun _ => h.l)).mono ?_
    intro e w' hd
    rw [h.res] at hd
    exact dpost_top hd ((declF_inside _ _ _ _ _ _).trans h.ins) ((declF_here _ _ _ _ _).trans h.here) (k1 A).drew
  unfold symV at hD
  have hcg : ∀ A, (w.alloc A).cell? ⟨lb, 2, none⟩ = some (.map (some gm)) := fun A => (h.pl.below (k1 A)).gl
  clear h
  generalize lookGl E (.var n p) = g9 at *
  go_enter Tryz.func120, Tryz.ntmps120
  go_wp2
  go_region_with (go_at_call 147; refine (hD _).mono ?_; rintro e w2 ⟨rfl, hT2, hF2⟩)
  all_goals go_wp2
  all_goals go_end0
  all_goals exact ⟨rfl, hT2, hF2⟩

set_option maxRecDepth 100000 in
set_option maxHeartbeats 2000000 in
theorem lg_arr (h : Top lb gm ng w c L E) (hng : ng + 1 < maxLen) (n : ByteArray) (p size at_ : Nat) (hO : NmOk n) :
    Calls Tryz.prog 120 #[.pointer (some ⟨lb, 0, none⟩), .iface 215 (.agg #[.string n, .int .i64 p, .int .i64 size, .int .i64 at_])] w (GPost lb gm ng (lookGl E (.arr n p size at_)) c w) := by
  have hlt := h.pl.lt
  have hgt := h.pl.gmap.lt
  have hn : n.size ≤ maxLen := by have := hO.2; unfold maxLen; omega
  have k1 : ∀ A, Below w.heap.size w (w.alloc A) := fun A => (Below.refl _ _).alloc (Nat.le_refl _) _
  have hD : ∀ A, Calls Tryz.prog 147 #[.pointer (some ⟨lb, 0, none⟩), .map (some gm), .agg #[.string n, .int .i64 p], symV (2, 0)] (w.alloc A).drew (GPost lb gm ng (declF E false n p 1 0) c (w.alloc A)) := fun A => by
    refine (decl_glob (h.pl.below (k1 A).drew) (by rw [noRes_id h.res]; exact h.rep) h.ins (by omega) hn p 1 0 (fun _ => h.l)).mono ?_
    intro e w' hd
    rw [h.res] at hd
    exact dpost_top hd ((declF_inside _ _ _ _ _ _).trans h.ins) ((declF_here _ _ _ _ _).trans h.here) (Below.refl _ _).drew
  unfold symV at hD
  have hcg : ∀ A, (w.alloc A).cell? ⟨lb, 2, none⟩ = some (.map (some gm)) := fun A => (h.pl.below (k1 A)).gl
  have HE : Hid (lookGl E (.arr n p size at_) = ((declF E false n p 1 0).1, (declF E false n p 1 0).2.or (sizeF size at_))) := rfl
  have HN : Hid (Nz (declF E false n p 1 0).2) := nz_declF _ _ _ _ _ _
  clear h
  generalize declF E false n p 1 0 = d1 at *
  go_enter Tryz.func120, Tryz.ntmps120
  go_upto_region 6 with fail
  go_cut [] from 24 to 32 (fun wx => ∃ A, A = .cells #[.string n, .int .i64 p, .int .i64 size, .int .i64 at_] 215 ∧ (∃ L', Top lb gm (ng + 1) wx (tellF d1.2 c) L' d1.1) ∧ Fr (fun b => b = lb ∨ b = gm) (w.alloc A) wx)
  case first =>
    go_region_with (go_at_call 147; refine (hD _).mono ?_; rintro e w2 ⟨rfl, hT2, hF2⟩)
    all_goals (go_wp2_with fail; go_meet; exact ⟨_, rfl, hT2, hF2⟩)
  case rest =>
    obtain ⟨A, hA, ⟨L2, hT2⟩, hF2⟩ := hcut
    have q : ∀ o, wc.cell? ⟨w.heap.size, o, none⟩ = #[Value.string n, .int .i64 p, .int .i64 size, .int .i64 at_][o]? := fun o => by
      rw [hF2.cell (by simp) (by simp; omega), hA]; exact World.cell?_alloc_new w _ _ o
    have q2 := q 2
    have q3 := q 3
    have hP2 := hT2.pl
    have hl2 := hP2.lt
    have hT := ltell_any (hP2.below (Below.refl _ _).drew) 3 at_
    have hF2' : Fr (fun b => b = lb ∨ b = gm) w wc := (Fr.of_below (k1 A)).trans hF2
    have HT : Hid (Top lb gm (ng + 1) wc (tellF d1.2 c) L2 d1.1) := hT2
    clear hA hD hT2
    generalize hc1 : tellF d1.2 c = c1 at *
    by_cases hz : size < 1 ∨ 20 < size
    · have HZ : Hid (sizeF size at_ = some (3, at_)) := by show _ = _; unfold sizeF; rw [if_pos hz]
      have HC : Hid (tellF (lookGl E (.arr n p size at_)).2 c = tellF (some (3, at_)) c1) := by
        show _ = _; rw [HE.out, ← hc1, ← HZ.out, tellF_or _ _ HN.out]
      have HF : Hid (∀ w3, PL lb gm (ng + 1) 0 none w3 (tellF (some (3, at_)) c1) L2 → Par lb wc.drew w3 → GPost lb gm ng (lookGl E (.arr n p size at_)) c w (.returned (.tuple #[])) w3) := fun w3 hP3 hk3 => by
        refine ⟨rfl, ⟨L2, ?_⟩, (hF2'.trans (Fr.of_below (Below.refl _ _).drew)).trans (Fr.of_par hk3 (.inl rfl))⟩
        rw [HC.out]
        exact ⟨hP3, fun h0 => (by have := (tell_none_of (f := some (3, at_)) (fun x hx => by cases hx; simp) h0).2; cases this), HT.out.res, HT.out.l, by rw [HE.out]; exact HT.out.ins, by rw [HE.out]; exact HT.out.here⟩
      generalize tellF (some (3, at_)) c1 = c2 at *
      by_cases hz1 : size < 1
      · have hb1 : decide ((size : Int) < 1) = true := by simp; omega
        go_wp2
        go_region_with (go_at_call 148; refine hT.mono ?_; rintro e w3 ⟨rfl, hP3, hk3⟩)
        all_goals go_wp2
        all_goals go_end0
        all_goals exact HF.out _ hP3 hk3
      · have hb1 : decide ((size : Int) < 1) = false := by simp; omega
        have hb2 : decide ((20 : Int) < (size : Int)) = true := by simp; omega
        go_wp2
        go_region_with (go_at_call 148; refine hT.mono ?_; rintro e w3 ⟨rfl, hP3, hk3⟩)
        all_goals go_wp2
        all_goals go_end0
        all_goals exact HF.out _ hP3 hk3
    · have HZ : Hid (sizeF size at_ = none) := by show _ = _; unfold sizeF; rw [if_neg hz]
      have hb1 : decide ((size : Int) < 1) = false := by simp; omega
      have hb2 : decide ((20 : Int) < (size : Int)) = false := by simp; omega
      have HC : Hid (tellF (lookGl E (.arr n p size at_)).2 c = c1) := by
        show _ = _; rw [HE.out, ← hc1]; show tellF (d1.2.or (sizeF size at_)) c = _; rw [HZ.out]; cases d1.2 <;> rfl
      go_wp2
      go_end0
      refine ⟨rfl, ⟨L2, ?_⟩, hF2'⟩
      rw [HC.out, HE.out]; exact HT.out

end

end Go.Proofs.YtklobognaldjpaaGreat

namespace Go.Proofs.YtklobognaldjpaaGreat
open Go.RowKit

section
variable {lb gm ng nl : Nat} {lm : Option Nat} {w w' : World} {c : Nat × Nat} {L : PEnv} {E : Env} {Q : Nat → Prop}

theorem Top.below (h : Top lb gm ng w c L E) (hb : Below w.heap.size w w') : Top lb gm ng w' c L E := ⟨h.pl.below hb, h.rep, h.res, h.l, h.ins, h.here⟩
theorem keepB (hb : Below w.heap.size w w') : KeepQ Q w w' := ⟨hb.size, fun b _ hl => hb.block b hl⟩
theorem GPost.from {r : Env × Option (Nat × Nat)} {W : World} {e : Ending} (h : GPost lb gm ng r c W e w') (hb : Below w.heap.size w W) : GPost lb gm ng r c w e w' := ⟨h.1, h.2.1, (Fr.of_below hb).trans h.2.2⟩

set_option maxRecDepth 100000 in
set_option maxHeartbeats 2000000 in
theorem lg_proc (h : Top lb gm ng w c L E) (hng : ng + 1 < maxLen) (r : Ro) {vp vl vb : Value} {vs : List Value} (hp : SliceN Q w vp r.params) (hl : SliceN Q w vl r.locals) (hb : SliceV Q w vb vs) (hA : SAll Q w vs r.body)
    (hQ : ∀ b, Q b → b ≠ lb ∧ b ≠ gm) (hO : OkRo r) (hlen : r.params.length + r.locals.length ≤ 601) :
    Calls Tryz.prog 120 #[.pointer (some ⟨lb, 0, none⟩), .iface 220 (.agg #[.string r.name.1, .int .i64 r.name.2, vp, vl, vb])] w (GPost lb gm ng (lookGl E (.proc r)) c w) := by
  have hlt := h.pl.lt
  have k1 : ∀ A, Below w.heap.size w (w.alloc A) := fun A => (Below.refl _ _).alloc (Nat.le_refl _) _
  have hD : ∀ A, Calls Tryz.prog 149 #[.pointer (some ⟨lb, 0, none⟩), .agg #[.string r.name.1, .int .i64 r.name.2, vp, vl, vb], .int .i64 3, .string ⟨#[]⟩] (w.alloc A) (GPost lb gm ng (lookGl E (.proc r)) c w) := fun A =>
    (lroutine_any (h.below (k1 A)) hng 2 r (hp.keep (keepB (k1 A))) (hl.keep (keepB (k1 A))) (hb.keep (keepB (k1 A))) (hA.keep (keepB (k1 A))) hQ hO hlen ⟨#[]⟩ (by simp)).mono fun e w' hg => GPost.from hg (k1 A)
  obtain ⟨pa, pc, rfl⟩ := hp.len
  obtain ⟨la, lc, rfl⟩ := hl.len
  obtain ⟨ba, bc, rfl⟩ := hb.len
  clear hp hl hb hA hlen hO h
  generalize lookGl E (.proc r) = g9 at *
  go_enter Tryz.func120, Tryz.ntmps120
  go_wp2_with (go_at_call 149; refine (hD _).mono ?_; rintro e w2 ⟨rfl, hT2, hF2⟩)
  go_end0
  exact ⟨rfl, hT2, hF2⟩

set_option maxRecDepth 100000 in
set_option maxHeartbeats 2000000 in
theorem lg_func (h : Top lb gm ng w c L E) (hng : ng + 1 < maxLen) (r : Ro) {vp vl vb : Value} {vs : List Value} (hp : SliceN Q w vp r.params) (hl : SliceN Q w vl r.locals) (hb : SliceV Q w vb vs) (hA : SAll Q w vs r.body)
    (hQ : ∀ b, Q b → b ≠ lb ∧ b ≠ gm) (hO : OkRo r) (hlen : r.params.length + r.locals.length ≤ 601) :
    Calls Tryz.prog 120 #[.pointer (some ⟨lb, 0, none⟩), .iface 222 (.agg #[.string r.name.1, .int .i64 r.name.2, vp, vl, vb])] w (GPost lb gm ng (lookGl E (.func r)) c w) := by
  have hlt := h.pl.lt
  have k1 : ∀ A, Below w.heap.size w (w.alloc A) := fun A => (Below.refl _ _).alloc (Nat.le_refl _) _
  have hD : ∀ A, Calls Tryz.prog 149 #[.pointer (some ⟨lb, 0, none⟩), .agg #[.string r.name.1, .int .i64 r.name.2, vp, vl, vb], .int .i64 4, .string r.name.1] (w.alloc A) (GPost lb gm ng (lookGl E (.func r)) c w) := fun A =>
    (lroutine_any (h.below (k1 A)) hng 3 r (hp.keep (keepB (k1 A))) (hl.keep (keepB (k1 A))) (hb.keep (keepB (k1 A))) (hA.keep (keepB (k1 A))) hQ hO hlen r.name.1 (by simp)).mono fun e w' hg => GPost.from hg (k1 A)
  obtain ⟨pa, pc, rfl⟩ := hp.len
  obtain ⟨la, lc, rfl⟩ := hl.len
  obtain ⟨ba, bc, rfl⟩ := hb.len
  clear hp hl hb hA hlen hO h
  generalize lookGl E (.func r) = g9 at *
  go_enter Tryz.func120, Tryz.ntmps120
  go_wp2_with (go_at_call 149; refine (hD _).mono ?_; rintro e w2 ⟨rfl, hT2, hF2⟩)
  go_end0
  exact ⟨rfl, hT2, hF2⟩

/-- What a look at what is global does. -/
theorem lg_any (h : Top lb gm ng w c L E) (hng : ng + 1 < maxLen) {T : List Tok} (hT : T.length ≤ 601) {g : Gl} {v : Value} (hR : RGl Q w v g) (hQ : ∀ b, Q b → b ≠ lb ∧ b ≠ gm) (hO : GlOk T g) :
    Calls Tryz.prog 120 #[.pointer (some ⟨lb, 0, none⟩), v] w (GPost lb gm ng (lookGl E g) c w) := by
  cases hR with
  | var n p => exact lg_var h hng n p hO.1
  | arr n p s a => exact lg_arr h hng n p s a hO.1
  | proc r h1 h2 h3 h4 => exact lg_proc h hng r h1 h2 h3 h4 hQ hO.1 (Nat.le_trans hO.2 hT)
  | func r h1 h2 h3 h4 => exact lg_func h hng r h1 h2 h3 h4 hQ hO.1 (Nat.le_trans hO.2 hT)

theorem lookGls_take : ∀ (l : List Gl) (E : Env) (j : Nat) (g : Gl), l[j]? = some g →
    lookGls E (l.take (j + 1)) = ((lookGl (lookGls E (l.take j)).1 g).1, (lookGls E (l.take j)).2.or (lookGl (lookGls E (l.take j)).1 g).2)
  | [], E, j, g, h => by simp at h
  | a :: l, E, 0, g, h => by
    simp at h; subst h
    rw [List.take_succ_cons, List.take_zero, List.take_zero, lookGls, lookGls, lookGls]
    cases (lookGl E a).2 <;> rfl
  | a :: l, E, j + 1, g, h => by
    rw [List.take_succ_cons, List.take_succ_cons, lookGls, lookGls, lookGls_take l _ j g (by simpa using h)]
    cases (lookGl E a).2 <;> rfl

end

end Go.Proofs.YtklobognaldjpaaGreat
