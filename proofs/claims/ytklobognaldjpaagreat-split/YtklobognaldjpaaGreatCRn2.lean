/- The program's Check. Plain: whoever is a number is a value; what is known of a text that passed. The program: a machine for a text, or what is wrong; a run. The program: Run. The program: Run, its con -/
import Derived.Test.YtklobognaldjpaaGreatCLk13
import Derived.Test.YtklobognaldjpaaGreatCScan5
import Derived.Test.YtklobognaldjpaaGreatCDecl6
import Derived.Deep.AppendLies
import Derived.Laws.OwnMore
import Derived.Test.YtklobognaldjpaaGreatCSim9
import Derived.Test.YtklobognaldjpaaGreatCSz1
import Derived.Test.YtklobognaldjpaaGreatCVo1
import Derived.Test.YtklobognaldjpaaGreatCCm19
set_option maxRecDepth 1000000
set_option maxHeartbeats 4000000
namespace Go.Proofs.YtklobognaldjpaaGreat
open Go.RowKit
theorem mkTok_nm {l : List UInt8} {q : Nat} {x : TK × Nat × Nat} (hl : l.length <= 600) (hq : q < l.length) (h : lex1 (l.drop q) = .ok x) : NmOk (mkTok l q x).text := by
 have hp := lex1_pos (k := x.1) (n := x.2.1) (v := x.2.2) h
 have e : (mkTok l q x).text.toList = (l.drop q).take x.2.1 := by show (bs ((l.drop q).take x.2.1)).toList = _; rw [bsl']
 refine ⟨?_, ?_⟩
 ·rw [e]
  intro h0
  have h1 : ((l.drop q).take x.2.1).length = 0 := by rw [h0]; rfl
  rw [List.length_take, List.length_drop] at h1
  omega
 ·show (((l.drop q).take x.2.1).toArray).size <= 600
  simp; omega
theorem lexAt_nm (l : List UInt8) (hl : l.length <= 600) : ∀ (k q : Nat) (T : List Tok), l.length - q <= k -> lexAt l q = .ok T -> ∀ t ∈ T, t.kind = .name -> NmOk t.text
 | 0, q, T, hk, h => by
  rw [lexAt_end (by omega)] at h
  cases h
  intro t ht hn
  simp at ht
  subst ht
  cases hn
 | k + 1, q, T, hk, h => by
  by_cases hq : q < l.length
  ·cases hx : lex1 (l.drop q) with
   | error c => rw [lexAt_bad hq hx] at h; cases h
   | ok x =>
    rw [lexAt_ok hq hx] at h
    have hp := lex1_pos (k := x.1) (n := x.2.1) (v := x.2.2) hx
    have hg := gap_ge l (q + x.2.1)
    cases hr : lexAt l (gap l (q + x.2.1)) with
    | error e => rw [hr] at h; cases h
    | ok r =>
     rw [hr] at h
     cases h
     have ih := lexAt_nm l hl k (gap l (q + x.2.1)) r (by omega) hr
     intro t ht hn
     rcases List.mem_cons.1 ht with rfl | ht
     ·exact mkTok_nm hl hq hx
     ·exact ih t ht hn
  ·rw [lexAt_end hq] at h
   cases h
   intro t ht hn
   simp at ht
   subst ht
   cases hn
def InMemQ (Q : Nat -> Prop) (w : World) (v : Value) (p : Pr) : Prop := ∃ vg vb gs bs, v = .agg #[vg, vb] /\ SliceV Q w vg gs /\ GAll Q w gs p.globals /\ SliceV Q w vb bs /\ SAll Q w bs p.body
def InMem (w : World) (v : Value) (p : Pr) : Prop := ∃ Q, InMemQ Q w v p
theorem InMemQ.keep {Q : Nat -> Prop} {w w' : World} {v : Value} {p : Pr} (h : InMemQ Q w v p) (k : KeepQ Q w w') : InMemQ Q w' v p := by
 obtain ⟨vg, vb, gs, bs, rfl, a1, a2, a3, a4⟩ := h
 exact ⟨vg, vb, gs, bs, rfl, a1.keep k, a2.keep k, a3.keep k, a4.keep k⟩
def ReadPost (l : List UInt8) (w : World) (e : Ending) (w' : World) : Prop :=
 Below w.heap.size w w' /\ ∃ ga gn gc ba bn bc, e = .returned (.tuple #[.agg #[.slice ga gn gc, .slice ba bn bc], .int .i64 ((checkP l).1 : Nat), .int .i64 ((checkP l).2 : Nat)]) /\
  ∀ T, l.length <= 600 -> lexAll l = .ok T -> (programP T ⟨0, 0, 0⟩).2.code = 0 -> InMem w' (.agg #[.slice ga gn gc, .slice ba bn bc]) (programP T ⟨0, 0, 0⟩).1
theorem res_kept {w W : World} {a b : Value} {t : TypeId} (hb : Below (w.alloc (.cells #[a, b] t)).heap.size (w.alloc (.cells #[a, b] t)) W) :
  W.cell? ⟨w.heap.size, 0, none⟩ = some a /\ W.cell? ⟨w.heap.size, 1, none⟩ = some b /\ W.frozen? ⟨w.heap.size, 0, none⟩ = false /\ W.frozen? ⟨w.heap.size, 1, none⟩ = false := by
 have hl : w.heap.size < (w.alloc (.cells #[a, b] t)).heap.size := by simp
 have c := fun o => World.cell?_alloc_new w #[a, b] t o
 have f := fun o => World.frozen?_alloc_new w #[a, b] t o
 refine ⟨?_, ?_, ?_, ?_⟩
 ·rw [hb.cell hl]; exact c 0
 ·rw [hb.cell hl]; exact c 1
 ·rw [hb.frozen hl]; exact f 0
 ·rw [hb.frozen hl]; exact f 1
theorem read_any (s : ByteArray) (w : World) :
  Calls Tryz.prog 65 #[.string s] w (ReadPost s.data.toList w) := by
 have hlen : s.data.toList.length = s.size := len_toList s
 have k0 : ∀ A, Below w.heap.size w (w.alloc A) := fun A => (Below.refl _ _).alloc (Nat.le_refl _) _
 by_cases hbig : 600 < s.size
 ·have HA : Hid (checkP s.data.toList = (1, 0)) := by show _ = _; unfold checkP; rw [if_pos (by omega)]
  have hb : (600 : Int) < (s.size : Int) := by omega
  have HN : Hid (¬ s.data.toList.length <= 600) := by show ¬ _; omega
  clear hbig hlen
  go_enter Tryz.func65, Tryz.ntmps65
  go_wp2
  refine bodyPost_ret (v := .tuple #[.agg #[.slice none 0 0, .slice none 0 0], .int .i64 1, .int .i64 0]) (by simp [results, Tryz.results65, go_sem]) rfl ?_
  go_light
  unfold ReadPost
  rw [HA.out]
  exact ⟨k0 _, _, _, _, _, _, _, rfl, fun T hT => absurd hT HN.out⟩
 ·have hb : ¬ (600 : Int) < (s.size : Int) := by omega
  have hTk := fun W => tokens_any s W (by omega)
  cases hlex : lexAll s.data.toList with
  | error x =>
   obtain ⟨c, q⟩ := x
   have HA : Hid (checkP s.data.toList = (c, q)) := by show _ = _; unfold checkP; rw [if_neg (by omega), hlex]
   have hT2 : ∀ W, Calls Tryz.prog 85 #[.string s] W fun e w' => e = .returned (.tuple #[.slice none 0 0, .int .i64 c, .int .i64 q]) /\ Below W.heap.size W w' := fun W => by
    refine (hTk W).mono ?_
    rintro e w' ⟨hbl, ⟨c2, q2, hl, rfl⟩ | ⟨ts, v, hl, rfl, ho⟩⟩
    ·rw [hlex] at hl; cases hl; exact ⟨rfl, hbl⟩
    ·rw [hlex] at hl; cases hl
   have hc0 := lexAll_err hlex
   have hcb : ((c : Int) != 0) = true := by simp; omega
   have HL : Hid (lexAll s.data.toList = .error (c, q)) := hlex
   clear hTk hlex hc0 hbig hlen
   go_enter Tryz.func65, Tryz.ntmps65
   go_wp2_with (go_at_call 85; refine (hT2 _).mono ?_; rintro e w1 ⟨rfl, hb1⟩; obtain ⟨c0, c1, f0, f1⟩ := res_kept hb1)
   refine bodyPost_ret (v := .tuple #[.agg #[.slice none 0 0, .slice none 0 0], .int .i64 c, .int .i64 q]) (by simp [results, Tryz.results65, go_sem, c0, c1]) rfl ?_
   go_light
   unfold ReadPost
   rw [HA.out]
   refine ⟨?_, _, _, _, _, _, _, rfl, fun T _ hT => by rw [HL.out] at hT; cases hT⟩
   exact (((k0 _).trans (hb1.mono (by simp))).setCell (Nat.le_refl _) _).setCell (Nat.le_refl _) _
  | ok T =>
   obtain ⟨hTl, hT⟩ := lexAt_len s.data.toList _ _ T (Nat.le_refl _) hlex
   have hT601 : T.length <= 601 := by omega
   have hpos := hT.pos
   have hN : NT T := ⟨hT601, lexAt_nm s.data.toList (by omega) _ _ T (Nat.le_refl _) hlex⟩
   have HL : Hid (∀ T', lexAll s.data.toList = .ok T' -> T' = T) := fun T' h => by rw [hlex] at h; cases h; rfl
   have hT2 : ∀ W, Calls Tryz.prog 85 #[.string s] W fun e w' => ∃ tb cap, e = .returned (.tuple #[.slice (some ⟨tb, 0, none⟩) T.length cap, .int .i64 0, .int .i64 0]) /\ Below W.heap.size W w' /\ tb < w'.heap.size /\ ∀ j u, (toksC T)[j]? = some u -> w'.cell? ⟨tb, j, none⟩ = some u := fun W => by
    refine (hTk W).mono ?_
    rintro e w' ⟨hbl, ⟨c2, q2, hl, rfl⟩ | ⟨ts, v, hl, rfl, ho⟩⟩
    ·rw [hlex] at hl; cases hl
    ·rw [hlex] at hl
     cases hl
     obtain ⟨tb, cap, rfl, _, hlt⟩ := ho.form hpos
     refine ⟨tb, cap, rfl, hbl, hlt, fun j u hj => ?_⟩
     have hjl : j < (toksC T).length := (List.getElem?_eq_some_iff.1 hj).1
     rw [ho.cellAt j (by rw [ho.1] at hjl; exact hjl)]
     exact hj
   have hPr := fun (W : World) (tb cap : Nat) (htl : tb < W.heap.size) (htok : ∀ j u, (toksC T)[j]? = some u -> W.cell? ⟨tb, j, none⟩ = some u) => parseProgram_any (cap := cap) hT hT601 htl htok
   unfold ProgPost at hPr
   by_cases hc : (programP T ⟨0, 0, 0⟩).2.code = 0
   ·have hOk : PrOk T (programP T ⟨0, 0, 0⟩).1 := ok_program hT hN hpos rfl hc
    have HA : Hid (checkP s.data.toList = tellF (lookPr env0 (programP T ⟨0, 0, 0⟩).1) (0, 0)) := by
     show _ = _
     unfold checkP
     rw [if_neg (by omega), hlex]
     simp only
     rw [if_pos hc]
     cases lookPr env0 (programP T ⟨0, 0, 0⟩).1 <;> rfl
    have hP2 : ∀ (W : World) (tb cap : Nat), tb < W.heap.size -> (∀ j u, (toksC T)[j]? = some u -> W.cell? ⟨tb, j, none⟩ = some u) -> Calls Tryz.prog 86 #[.slice (some ⟨tb, 0, none⟩) T.length cap] W fun e w' => Below W.heap.size W w' /\ ∃ ga gn gc ba bn bc, e = .returned (.tuple #[.agg #[.slice ga gn gc, .slice ba bn bc], .int .i64 0, .int .i64 0]) /\
      Hid (InMemQ (From W.heap.size) w' (.agg #[.slice ga gn gc, .slice ba bn bc]) (programP T ⟨0, 0, 0⟩).1) /\
      Hid (∀ A, Calls Tryz.prog 87 #[.agg #[.slice ga gn gc, .slice ba bn bc]] (w'.alloc A) (LookPost (programP T ⟨0, 0, 0⟩).1 (w'.alloc A))) := fun W tb cap h1 h2 => by
     refine (hPr W tb cap h1 h2).mono ?_
     rintro e w' ⟨hbl, ⟨hcn, _⟩ | ⟨_, vg, vb, gs, bs, rfl, a1, a2, a3, a4⟩⟩
     ·exact absurd hc hcn
     ·obtain ⟨ga, gc, rfl⟩ := a1.len
      obtain ⟨ba, bc, rfl⟩ := a3.len
      refine ⟨hbl, ga, _, gc, ba, _, bc, rfl, ⟨_, _, gs, bs, rfl, a1, a2, a3, a4⟩, fun A => ?_⟩
      have kb : Below w'.heap.size w' (w'.alloc A) := (Below.refl _ _).alloc (Nat.le_refl _) _
      exact look_any hT601 (a1.keep (keepB kb)) (a2.keep (keepB kb)) (a3.keep (keepB kb)) (a4.keep (keepB kb)) hOk
    have HP0 : Hid ((programP T ⟨0, 0, 0⟩).1 = (programP T ⟨0, 0, 0⟩).1) := rfl
    generalize hp0 : (programP T ⟨0, 0, 0⟩).1 = p0 at *
    have HP1 : Hid ((programP T ⟨0, 0, 0⟩).1 = p0) := hp0
    clear HP0 hp0
    unfold LookPost at hP2
    generalize tellF (lookPr env0 p0) (0, 0) = c9 at *
    clear hPr hTk hlex hbig hlen hTl hc hOk hN
    go_enter Tryz.func65, Tryz.ntmps65
    go_wp2_with (first
     | (go_at_call 85; refine (hT2 _).mono ?_; rintro e w1 ⟨tb, cap, rfl, hb1, htl1, htok1⟩; have HT1 : Hid (∀ j u, (toksC T)[j]? = some u -> w1.cell? ⟨tb, j, none⟩ = some u) := htok1; clear htok1)
     | (go_at_call 86; refine (hP2 w1 tb cap htl1 HT1.out).mono ?_; rintro e w2 ⟨hb2, ga, gn, gc, ba, bn, bc, rfl, HIM, HLk⟩)
     | (go_at_call 87; refine (HLk.out _).mono ?_; rintro e w3 ⟨rfl, hb3⟩
        have hk3 := hb1.trans ((hb2.mono hb1.size).trans (((Below.refl _ _).alloc (Nat.le_trans hb1.size hb2.size) _).trans (hb3.mono (by have := hb2.size; have := hb1.size; simp at *; omega))))
        obtain ⟨c0, c1, f0, f1⟩ := res_kept hk3
        obtain ⟨d0, d1, g0, g1⟩ := res_kept hb3
        have HB3 : Hid (Below w.heap.size w w3) := (k0 _).trans (hk3.mono (by simp))
        have HK3 : Hid (Below w2.heap.size w2 w3) := ((Below.refl _ _).alloc (Nat.le_refl _) _).trans (hb3.mono (by simp))
        clear hk3))
    refine bodyPost_ret (v := .tuple #[.agg #[.slice ga gn gc, .slice ba bn bc], .int .i64 c9.1, .int .i64 c9.2]) (by simp [results, Tryz.results65, go_sem, c0, c1]) rfl ?_
    go_light
    unfold ReadPost
    rw [HA.out]
    refine ⟨?_, _, _, _, _, _, _, rfl, fun T' _ hT' _ => ?_⟩
    ·exact (HB3.out.setCell (Nat.le_refl _) _).setCell (Nat.le_refl _) _
    ·obtain rfl := HL.out T' hT'
     rw [HP1.out]
     have hQ : ∀ i, From w1.heap.size i -> i ≠ w.heap.size := fun i hi => by unfold From at hi; have := hb1.size; simp at this; omega
     exact ⟨_, (HIM.out.keep (keepB HK3.out)).keep (((KeepQ.refl _ w3).setCell ⟨w.heap.size, 0, none⟩ _ hQ).setCell ⟨w.heap.size, 1, none⟩ _ hQ)⟩
   ·have hcb : (((programP T ⟨0, 0, 0⟩).2.code : Int) != 0) = true := by simp; omega
    have HA : Hid (checkP s.data.toList = ((programP T ⟨0, 0, 0⟩).2.code, (programP T ⟨0, 0, 0⟩).2.at_)) := by
     show _ = _
     unfold checkP
     rw [if_neg (by omega), hlex]
     simp only
     rw [if_neg hc]
    have hP2 : ∀ (W : World) (tb cap : Nat), tb < W.heap.size -> (∀ j u, (toksC T)[j]? = some u -> W.cell? ⟨tb, j, none⟩ = some u) -> Calls Tryz.prog 86 #[.slice (some ⟨tb, 0, none⟩) T.length cap] W fun e w' => Below W.heap.size W w' /\ e = .returned (.tuple #[.agg #[.slice none 0 0, .slice none 0 0], .int .i64 (programP T ⟨0, 0, 0⟩).2.code, .int .i64 (programP T ⟨0, 0, 0⟩).2.at_]) := fun W tb cap h1 h2 => by
     refine (hPr W tb cap h1 h2).mono ?_
     rintro e w' ⟨hbl, ⟨_, rfl⟩ | ⟨hcn, _⟩⟩
     ·exact ⟨hbl, rfl⟩
     ·exact absurd hcn hc
    have HC : Hid (∀ T', T' = T -> (programP T' ⟨0, 0, 0⟩).2.code ≠ 0) := fun T' e => by rw [e]; exact hc
    generalize (programP T ⟨0, 0, 0⟩).2.code = rc at *
    generalize (programP T ⟨0, 0, 0⟩).2.at_ = ra at *
    clear hPr hTk hlex hbig hlen hTl hc hN
    go_enter Tryz.func65, Tryz.ntmps65
    go_wp2_with (first
     | (go_at_call 85; refine (hT2 _).mono ?_; rintro e w1 ⟨tb, cap, rfl, hb1, htl1, htok1⟩; have HT1 : Hid (∀ j u, (toksC T)[j]? = some u -> w1.cell? ⟨tb, j, none⟩ = some u) := htok1; clear htok1)
     | (go_at_call 86; refine (hP2 w1 tb cap htl1 HT1.out).mono ?_; rintro e w2 ⟨hb2, rfl⟩
        have hk3 := hb1.trans ((hb2.mono hb1.size).trans ((Below.refl _ _).alloc (Nat.le_trans hb1.size hb2.size) (.cells #[.slice none 0 0, .slice none 0 0] 117)))
        obtain ⟨c0, c1, f0, f1⟩ := res_kept hk3
        have HB3 : Hid (Below w.heap.size w (w2.alloc (.cells #[.slice none 0 0, .slice none 0 0] 117))) := (k0 _).trans (hk3.mono (by simp))
        clear hk3))
    refine bodyPost_ret (v := .tuple #[.agg #[.slice none 0 0, .slice none 0 0], .int .i64 rc, .int .i64 ra]) (by simp [results, Tryz.results65, go_sem, c0, c1]) rfl ?_
    go_light
    unfold ReadPost
    rw [HA.out]
    refine ⟨?_, _, _, _, _, _, _, rfl, fun T' _ hT' hc' => ?_⟩
    ·exact (HB3.out.setCell (Nat.le_refl _) _).setCell (Nat.le_refl _) _
    ·exact absurd hc' (HC.out T' (HL.out T' hT'))
theorem lex1_val {l : List UInt8} {x : TK × Nat × Nat} (h : lex1 l = .ok x) : x.2.2 <= 2147483647 := by
 unfold lex1 at h
 split at h
 ·cases h
 ·split at h
  ·cases h; simp
  ·split at h
   ·split at h
    ·cases h
    ·rename_i hv; cases h; unfold maxNumber at hv; simp only; omega
   ·split at h
    ·cases h; simp
    ·split at h
     ·cases h; simp
     ·cases h
theorem lexAt_val (l : List UInt8) : ∀ (k q : Nat) (T : List Tok), l.length - q <= k -> lexAt l q = .ok T -> ∀ t ∈ T, t.val <= 2147483647
 | 0, q, T, hk, h => by
  rw [lexAt_end (by omega)] at h
  cases h
  intro t ht
  simp at ht
  subst ht
  show 0 <= _; omega
 | k + 1, q, T, hk, h => by
  by_cases hq : q < l.length
  ·cases hx : lex1 (l.drop q) with
   | error c => rw [lexAt_bad hq hx] at h; cases h
   | ok x =>
    rw [lexAt_ok hq hx] at h
    have hp := lex1_pos (k := x.1) (n := x.2.1) (v := x.2.2) hx
    have hg := gap_ge l (q + x.2.1)
    cases hr : lexAt l (gap l (q + x.2.1)) with
    | error e => rw [hr] at h; cases h
    | ok r =>
     rw [hr] at h
     cases h
     have ih := lexAt_val l k (gap l (q + x.2.1)) r (by omega) hr
     intro t ht
     rcases List.mem_cons.1 ht with rfl | ht
     ·exact lex1_val hx
     ·exact ih t ht
  ·rw [lexAt_end hq] at h
   cases h
   intro t ht
   simp at ht
   subst ht
   show 0 <= _; omega
structure Passed (l : List UInt8) (p : Pr) : Prop where
 wh : ∃ T : List Tok, T.length <= 601 /\ PrWh T p
 look : lookPr env0 p = none
 len : (cPr p).1.length <= 4809
def treeOf (l : List UInt8) : Pr := match lexAll l with
 | .ok T => (programP T ⟨0, 0, 0⟩).1
 | .error _ => ⟨[], []⟩
theorem passed_of {l : List UInt8} (h : (checkP l).1 = 0) : Passed l (treeOf l) /\ l.length <= 600 /\ ∃ T, lexAll l = .ok T /\ (programP T ⟨0, 0, 0⟩).2.code = 0 /\ treeOf l = (programP T ⟨0, 0, 0⟩).1 := by
 unfold checkP at h
 by_cases h0 : 600 < l.length
 ·rw [if_pos h0] at h; cases h
 ·rw [if_neg h0] at h
  cases hx : lexAll l with
  | error e =>
   rw [hx] at h
   exact absurd h (lexAt_err l _ _ e (Nat.le_refl _) hx)
  | ok T =>
   rw [hx] at h
   simp only at h
   obtain ⟨hTl, hT⟩ := lexAt_len l _ _ T (Nat.le_refl _) hx
   have hN : NW T := ⟨⟨by omega, lexAt_nm l (by omega) _ _ T (Nat.le_refl _) hx⟩, fun t ht _ => lexAt_val l _ _ T (Nat.le_refl _) hx t ht⟩
   by_cases hc : (programP T ⟨0, 0, 0⟩).2.code = 0
   ·rw [if_pos hc] at h
    have ht : treeOf l = (programP T ⟨0, 0, 0⟩).1 := by unfold treeOf; rw [hx]
    refine ⟨?_, by omega, T, rfl, hc, ht⟩
    rw [ht]
    refine ⟨⟨T, by omega, wh_program hT hN (s := ⟨0, 0, 0⟩) hT.pos rfl hc⟩, ?_, ?_⟩
    ·cases hk : lookPr env0 (programP T ⟨0, 0, 0⟩).1 with
     | none => rfl
     | some x =>
      rw [hk] at h
      have hz : Nz (lookPr env0 (programP T ⟨0, 0, 0⟩).1) := by unfold lookPr; exact (nz_lookGls _ _).or (nz_lookSts _ _)
      exact absurd h (hz x hk)
    ·have := sz_program hT (s := ⟨0, 0, 0⟩) hT.pos
     omega
   ·rw [if_neg hc] at h; exact absurd h hc
def PrepPost (l : List UInt8) (zs : List Int) (fuel : Int) (w : World) (e : Ending) (w' : World) : Prop :=
 Below w.heap.size w w' /\
 (((checkP l).1 ≠ 0 /\ e = .returned (.tuple #[.pointer none, .int .i64 ((checkP l).1 : Nat), .int .i64 ((checkP l).2 : Nat)])) ∨
  ((checkP l).1 = 0 /\ ¬ (0 <= fuel /\ fuel <= 3000) /\ e = .returned (.tuple #[.pointer none, .int .i64 8, .int .i64 0])) ∨
  ((checkP l).1 = 0 /\ (0 <= fuel /\ fuel <= 3000) /\ okIn zs = false /\ e = .returned (.tuple #[.pointer none, .int .i64 11, .int .i64 0])) ∨
  ((checkP l).1 = 0 /\ (0 <= fuel /\ fuel <= 3000) /\ okIn zs = true /\ ∃ xb wb wc vi, ∃ (R : MR) (Q : Nat -> Prop), w.heap.size <= xb /\ (∀ b, R.has b -> w.heap.size <= b) /\ (∀ b, Q b -> w.heap.size <= b) /\ e = .returned (.tuple #[.pointer (some ⟨xb, 0, none⟩), .int .i64 0, .int .i64 0]) /\
     MC xb wb wc (cPr (treeOf l)).1 Q w' (m0 (cPr (treeOf l)) zs) fuel.toNat 0 false R vi))
theorem IntsAt.under {w w' : World} {v : Value} {zs : List Int} (h : IntsAt w v zs) (hb : Below w.heap.size w w') : IntsAt w' v zs := by
 obtain ⟨a, cap, rfl, h1, h2, h3⟩ := h
 refine ⟨a, cap, rfl, h1, h2, ?_⟩
 rcases h3 with h3 | ⟨b, off, rfl, hl, h3⟩
 ·exact .inl h3
 ·refine .inr ⟨b, off, rfl, Nat.lt_of_lt_of_le hl hb.size, fun i hi => ?_⟩
  rw [hb.cell (p := ⟨b, off + i, none⟩) hl]
  exact h3 i hi
theorem InMem.below {w w' : World} {v : Value} {p : Pr} (h : InMem w v p) (hb : Below w.heap.size w w') : InMem w' v p := by
 obtain ⟨Q, h⟩ := h
 exact ⟨Q, h.keep (keepB hb)⟩
theorem rng_of_ok {zs : List Int} (h : okIn zs = true) : Rng zs := fun v hv => by
 unfold okIn at h
 rw [List.all_eq_true] at h
 simpa using h v hv
theorem inp_of {w : World} {base : Nat} {vi : Value} {zs : List Int} (h : w.ownsRow base 21 1 vi zs.length (zs.map (.int .i32))) {Q : Nat -> Prop} (hq : ∀ b, base <= b -> b < w.heap.size -> Q b) : InpV Q w vi zs := by
 rcases h.2 with ⟨e1, e2⟩ | ⟨g, cap, cur, hv, hg, hh, hn, hm, _⟩
 ·exact ⟨none, 0, by rw [e1, e2], by omega, Nat.zero_le _, .inl (List.eq_nil_of_length_eq_zero e2)⟩
 ·refine ⟨some ⟨g, 0, none⟩, cap, hv, hn, hm, .inr ⟨g, 0, rfl, hq g hg (Array.getElem?_eq_some_iff.1 hh).1, fun j x hj => ?_⟩⟩
  have hjl : j < zs.length := (List.getElem?_eq_some_iff.1 hj).1
  rw [hv] at h
  rw [Nat.zero_add, h.cellAt j (by omega), List.getElem?_map, hj]; rfl
theorem prepare_any (s : ByteArray) (v : Value) (zs : List Int) (fuel : Int) (w : World) (hin : IntsAt w v zs) (hl : zs.length <= 35184372088831) :
  Calls Tryz.prog 48 #[.string s, v, .int .i64 fuel] w (PrepPost s.data.toList zs fuel w) := by
 have HR := read_any s w
 unfold ReadPost at HR
 generalize hL : s.data.toList = l at *
 have HL : Hid (s.data.toList = l) := hL
 clear hL
 by_cases h0 : (checkP l).1 = 0
 ·obtain ⟨hP, hlen, T, hT1, hT2, hT3⟩ := passed_of h0
  obtain ⟨T2, hT601, hwh⟩ := hP.wh
  obtain ⟨hLe, hPl⟩ := bw_program hwh hT601 hP.look (by have := hP.len; omega)
  have hcode : (cPr (treeOf l)).1.length <= 1000000 := by have := hP.len; omega
  have hds : ∀ g ∈ (treeOf l).globals, DistG g := by
   have hk := hP.look
   unfold lookPr at hk
   exact dist_gls _ _ (or_none hk).1 rfl rfl
  have HC : Hid (∀ w1 ga gn gc ba bn bc, InMem w1 (.agg #[.slice ga gn gc, .slice ba bn bc]) (treeOf l) -> Calls Tryz.prog 72 #[.agg #[.slice ga gn gc, .slice ba bn bc]] w1 (CodePost (treeOf l) w1)) := by
   intro w1 ga gn gc ba bn bc him
   obtain ⟨Q, vg, vb, gs, bs, he, a1, a2, a3, a4⟩ := him
   injection he with he
   simp at he
   obtain ⟨rfl, rfl⟩ := he
   exact compile_any a1 a2 a3 a4 hwh hT601 hds hPl hcode
  have HT : Hid (∀ w' va, (∀ T, l.length <= 600 -> lexAll l = .ok T -> (programP T ⟨0, 0, 0⟩).2.code = 0 -> InMem w' va (programP T ⟨0, 0, 0⟩).1) -> InMem w' va (treeOf l)) := fun w' va hh => by rw [hT3]; exact hh T hlen hT1 hT2
  have hpc : (cPr (treeOf l)).2.2 <= 1000000 := by
   have := hPl _ (Nat.le_refl _)
   unfold cPr
   unfold cgAt at this
   rw [List.take_length] at this
   exact this
  have HPC : Hid ((cPr (treeOf l)).2.2 <= 1000000) := hpc
  have H0 : Hid ((checkP l).1 = 0) := h0
  rw [h0, show ((0 : Nat) : Int) = 0 from rfl] at HR
  have HI : Hid (IntsAt w v zs) := hin
  obtain ⟨va, vcap, hva, _⟩ := hin
  subst hva
  clear hP hT1 hT2 hT3 hwh hLe hPl hcode hds hlen hpc
  by_cases hf : 0 <= fuel /\ fuel <= 3000
  ·have f1 : ¬ fuel < 0 := by omega
   have f2 : ¬ fuel > 3000 := by omega
   have HV := fun w1 (hb : Below w.heap.size w w1) => valuesOf_any _ zs w1 (HI.out.under hb) hl
   unfold VoPost at HV
   obtain ⟨fn, rfl⟩ : ∃ fn : Nat, fuel = fn := ⟨fuel.toNat, by omega⟩
   by_cases hok : okIn zs = true
   ·have HV2 : ∀ w1, Below w.heap.size w w1 -> Calls Tryz.prog 70 #[.slice va zs.length vcap] w1 fun e w' => Below w1.heap.size w1 w' /\ ∃ ia ic, e = .returned (.tuple #[.slice ia zs.length ic, .bool true]) /\ Hid (w'.ownsRow w1.heap.size 21 1 (.slice ia zs.length ic) zs.length (zs.map (.int .i32))) := fun w1 hb => by
     refine (HV w1 hb).mono ?_
     rintro e w' ⟨hb2, ⟨_, vi, rfl, ho⟩ | ⟨hno, _⟩⟩
     ·obtain ⟨ia, ic, rfl⟩ := owned_slice ho
      exact ⟨hb2, ia, ic, rfl, ho⟩
     ·rw [hok] at hno; cases hno
    have HFin : Hid (∀ (w1 w3 w4 : World) (A : Obj) (wb wc : Nat) (ia : Option Addr) (ic : Nat), Below w.heap.size w w1 -> Below (w1.alloc A).heap.size (w1.alloc A) w3 -> Below w3.heap.size w3 w4 -> w3.ownsRow (w1.alloc A).heap.size 21 1 (.slice ia zs.length ic) zs.length (zs.map (.int .i32)) -> w3.heap.size <= wb -> wb < w4.heap.size -> (∀ j x, (cPr (treeOf l)).1[j]? = some x -> w4.cell? ⟨wb, j, none⟩ = some (.int .i64 (x : Nat))) ->
      Calls Tryz.prog 71 #[.agg #[.slice (some ⟨wb, 0, none⟩) (cPr (treeOf l)).1.length wc, .int .i64 ((cPr (treeOf l)).2.1 : Nat), .int .i64 ((cPr (treeOf l)).2.2 : Nat)], .slice ia zs.length ic, .int .i64 (fn : Nat)] w4 fun e w' => ∃ xb, e = .returned (.pointer (some ⟨xb, 0, none⟩)) /\ PrepPost l zs fn w (.returned (.tuple #[.pointer (some ⟨xb, 0, none⟩), .int .i64 0, .int .i64 0])) w') := by
     intro w1 w3 w4 A wb wc ia ic hb1 hb3 hb4 ho hw1 hw2 hwd
     have hs1 := hb1.size
     have hsA : (w1.alloc A).heap.size = w1.heap.size + 1 := by simp
     have hs3 := hb3.size
     have hs4 := hb4.size
     have hin4 : InpV (fun b => w.heap.size <= b /\ b < w4.heap.size) w4 (.slice ia zs.length ic) zs := inp_of (owns_below ho hb4) (fun b h1 h2 => ⟨by omega, h2⟩)
     refine (new_any (Q := fun b => w.heap.size <= b /\ b < w4.heap.size) (fun b hb => hb.2) ⟨by omega, hw2⟩ hwd hin4 (rng_of_ok hok) HPC.out).mono ?_
     rintro e w5 ⟨rfl, hb5, R, hR, hM⟩
     refine ⟨w4.heap.size + 2, rfl, ?_, .inr (.inr (.inr ⟨H0.out, hf, hok, w4.heap.size + 2, wb, wc, .slice ia zs.length ic, R, (fun b => w.heap.size <= b /\ b < w4.heap.size), by omega, fun b hb => by have := hR b hb; omega, fun b hb => hb.1, rfl, ?_⟩))⟩
     ·exact hb1.trans ((((Below.refl _ _).alloc hb1.size A).trans (hb3.mono (by omega))).trans ((hb4.mono (by omega)).trans (hb5.mono (by omega))))
     ·exact hM
    clear HV HI HL
    go_enter Tryz.func48, Tryz.ntmps48
    go_wp2_with (first
     | (go_at_call 65; refine HR.mono ?_; rintro e w1 ⟨hb1, ga, gn, gc, ba, bn, bc, rfl, him⟩; have HIM : Hid (InMem w1 (.agg #[.slice ga gn gc, .slice ba bn bc]) (treeOf l)) := HT.out _ _ him; clear him)
     | (go_at_call 70; refine (HV2 _ (hb1.trans ((Below.refl _ _).alloc hb1.size _))).mono ?_; rintro e w3 ⟨hb3, ia, ic, rfl, HO3⟩; have HC3 : Hid _ := HC.out w3 ga gn gc ba bn bc (InMem.below (InMem.below HIM.out ((Below.refl _ w1).alloc (Nat.le_refl _) _)) hb3); have q0 := hb3.cell (p := ⟨w1.heap.size, 0, none⟩) (by simp); have q1 := hb3.cell (p := ⟨w1.heap.size, 1, none⟩) (by simp))
     | (go_at_call 72; refine Calls.mono HC3.out ?_; rintro e w4 ⟨hb4, wb, wc, rfl, hw1, hw2, hwd⟩; have HN : Hid _ := HFin.out w1 w3 w4 _ wb wc ia ic hb1 hb3 hb4 HO3.out hw1 hw2 hwd; clear hwd)
     | (go_at_call 71; refine Calls.mono HN.out ?_; rintro e w5 ⟨xb, rfl, HPo⟩))
    refine bodyPost_ret (v := .tuple #[.pointer (some ⟨xb, 0, none⟩), .int .i64 0, .int .i64 0]) (by simp [results, Tryz.results48, go_sem]) rfl ?_
    go_light
    exact HPo
   ·have hok' : okIn zs = false := by simpa using hok
    have HV2 : ∀ w1, Below w.heap.size w w1 -> Calls Tryz.prog 70 #[.slice va zs.length vcap] w1 fun e w' => Below w1.heap.size w1 w' /\ e = .returned (.tuple #[.slice none 0 0, .bool false]) := fun w1 hb => by
     refine (HV w1 hb).mono ?_
     rintro e w' ⟨hb2, ⟨hyes, _⟩ | ⟨_, rfl⟩⟩
     ·rw [hok'] at hyes; cases hyes
     ·exact ⟨hb2, rfl⟩
    clear HV HI HL HC HT
    go_enter Tryz.func48, Tryz.ntmps48
    go_wp2_with (first
     | (go_at_call 65; refine HR.mono ?_; rintro e w1 ⟨hb1, ga, gn, gc, ba, bn, bc, rfl, _⟩)
     | (go_at_call 70; refine (HV2 _ (hb1.trans ((Below.refl _ _).alloc hb1.size _))).mono ?_; rintro e w3 ⟨hb3, rfl⟩))
    refine bodyPost_ret (v := .tuple #[.pointer none, .int .i64 11, .int .i64 0]) (by simp [results, Tryz.results48, go_sem]) rfl ?_
    go_light
    exact ⟨hb1.trans (((Below.refl _ _).alloc hb1.size _).trans (hb3.mono (by have := hb1.size; simp; omega))), .inr (.inr (.inl ⟨H0.out, hf, hok', rfl⟩))⟩
  ·clear HI HL HC HT
   by_cases f1 : fuel < 0
   ·go_enter Tryz.func48, Tryz.ntmps48
    go_wp2_with (go_at_call 65; refine HR.mono ?_; rintro e w1 ⟨hb1, ga, gn, gc, ba, bn, bc, rfl, _⟩)
    refine bodyPost_ret (v := .tuple #[.pointer none, .int .i64 8, .int .i64 0]) (by simp [results, Tryz.results48, go_sem]) rfl ?_
    go_light
    exact ⟨hb1.trans ((Below.refl _ _).alloc hb1.size _), .inr (.inl ⟨H0.out, hf, rfl⟩)⟩
   ·have f2 : fuel > 3000 := by omega
    go_enter Tryz.func48, Tryz.ntmps48
    go_wp2_with (go_at_call 65; refine HR.mono ?_; rintro e w1 ⟨hb1, ga, gn, gc, ba, bn, bc, rfl, _⟩)
    refine bodyPost_ret (v := .tuple #[.pointer none, .int .i64 8, .int .i64 0]) (by simp [results, Tryz.results48, go_sem]) rfl ?_
    go_light
    exact ⟨hb1.trans ((Below.refl _ _).alloc hb1.size _), .inr (.inl ⟨H0.out, hf, rfl⟩)⟩
 ·have hne : (((checkP l).1 : Int) != 0) = true := by simp; omega
  obtain ⟨va, vcap, rfl, _⟩ := hin
  go_enter Tryz.func48, Tryz.ntmps48
  go_wp2_with (go_at_call 65; refine HR.mono ?_; rintro e w1 ⟨hb1, ga, gn, gc, ba, bn, bc, rfl, _⟩)
  refine bodyPost_ret (v := .tuple #[.pointer none, .int .i64 ((checkP l).1 : Nat), .int .i64 ((checkP l).2 : Nat)]) (by simp [results, Tryz.results48, go_sem]) rfl ?_
  go_light
  exact ⟨hb1.trans ((Below.refl _ _).alloc hb1.size _), .inl ⟨h0, rfl⟩⟩
theorem stepM_inv {W : List Nat} {B : Nat} {m m1 : MS} (hs : stepM W B m = some m1) (h0 : m.over = none) : m.pc < W.length /\ (m.calls.length <= 30 -> m1.calls.length <= 30) /\ (m.used <= B -> m1.used <= B) /\ (m1.over.isSome = true -> m1.stack.length <= m.stack.length) := by
 have hd : m.stack.dropLast.length <= m.stack.length := by rw [List.length_dropLast]; omega
 have hd2 : m.stack.dropLast.dropLast.length <= m.stack.length := by rw [List.length_dropLast, List.length_dropLast]; omega
 have hpc : m.pc < W.length := by
  cases hp : W[m.pc]? with
  | none => unfold stepM at hs; rw [hp] at hs; cases hs
  | some x => exact (List.getElem?_eq_some_iff.1 hp).1
 refine ⟨hpc, ?_⟩
 unfold stepM at hs
 split at hs
 ·cases hs
 ·cases hs; exact ⟨id, id, fun _ => Nat.le_refl _⟩
 ·cases hs
  split
  ·exact ⟨id, id, fun _ => Nat.le_refl _⟩
  ·exact ⟨id, fun h => by simp only; omega, fun _ => Nat.le_refl _⟩
 ·obtain ⟨v, hv, rfl⟩ := Option.map_eq_some_iff.1 hs
  exact ⟨id, id, fun h => by have : m.over.isSome = true := h; rw [h0] at this; cases this⟩
 ·obtain ⟨a, ha, hs⟩ := Option.bind_eq_some_iff.1 hs
  obtain ⟨v, hv, rfl⟩ := Option.map_eq_some_iff.1 hs
  exact ⟨id, id, fun h => by have : m.over.isSome = true := h; rw [h0] at this; cases this⟩
 ·obtain ⟨a, ha, hs⟩ := Option.bind_eq_some_iff.1 hs
  obtain ⟨x, hx, hs⟩ := Option.bind_eq_some_iff.1 hs
  split at hs
  ·cases hs; exact ⟨id, id, fun _ => hd⟩
  ·cases hs
 ·obtain ⟨a, ha, hs⟩ := Option.bind_eq_some_iff.1 hs
  obtain ⟨v, hv, rfl⟩ := Option.map_eq_some_iff.1 hs
  exact ⟨id, id, fun h => by have : m.over.isSome = true := h; rw [h0] at this; cases this⟩
 ·obtain ⟨a, ha, hs⟩ := Option.bind_eq_some_iff.1 hs
  obtain ⟨x, hx, hs⟩ := Option.bind_eq_some_iff.1 hs
  split at hs
  ·cases hs; exact ⟨id, id, fun _ => by simp only [List.length_set]; exact hd⟩
  ·cases hs
 ·obtain ⟨a, ha, hs⟩ := Option.bind_eq_some_iff.1 hs
  obtain ⟨n, hn, hs⟩ := Option.bind_eq_some_iff.1 hs
  obtain ⟨x, hx, rfl⟩ := Option.map_eq_some_iff.1 hs
  split
  ·exact ⟨id, id, fun _ => hd⟩
  ·exact ⟨id, id, fun h => by have : m.over.isSome = true := h; rw [h0] at this; cases this⟩
 ·obtain ⟨x, hx, hs⟩ := Option.bind_eq_some_iff.1 hs
  split at hs
  ·obtain ⟨v, hv, rfl⟩ := Option.map_eq_some_iff.1 hs
   exact ⟨id, id, fun h => by have : m.over.isSome = true := h; rw [h0] at this; cases this⟩
  ·cases hs
 ·obtain ⟨v, hv, hs⟩ := Option.bind_eq_some_iff.1 hs
  obtain ⟨x, hx, hs⟩ := Option.bind_eq_some_iff.1 hs
  split at hs
  ·cases hs; exact ⟨id, id, fun _ => hd2⟩
  ·cases hs
 ·obtain ⟨v, hv, rfl⟩ := Option.map_eq_some_iff.1 hs
  exact ⟨id, id, fun h => by have : m.over.isSome = true := h; rw [h0] at this; cases this⟩
 ·obtain ⟨v, hv, rfl⟩ := Option.map_eq_some_iff.1 hs
  exact ⟨id, id, fun h => by have : m.over.isSome = true := h; rw [h0] at this; cases this⟩
 ·obtain ⟨v, hv, rfl⟩ := Option.map_eq_some_iff.1 hs
  exact ⟨id, id, fun h => by have : m.over.isSome = true := h; rw [h0] at this; cases this⟩
 ·obtain ⟨a, ha, rfl⟩ := Option.map_eq_some_iff.1 hs
  exact ⟨id, id, fun _ => Nat.le_refl _⟩
 ·obtain ⟨a, ha, hs⟩ := Option.bind_eq_some_iff.1 hs
  obtain ⟨x, hx, rfl⟩ := Option.map_eq_some_iff.1 hs
  split
  ·exact ⟨id, id, fun _ => hd⟩
  ·exact ⟨id, id, fun _ => hd⟩
 ·obtain ⟨a, ha, hs⟩ := Option.bind_eq_some_iff.1 hs
  obtain ⟨n, hn, hs⟩ := Option.bind_eq_some_iff.1 hs
  split at hs
  ·cases hs; exact ⟨id, id, fun _ => Nat.le_refl _⟩
  ·rename_i h30
   split at hs
   ·cases hs; exact ⟨fun h => by simp only [List.length_append, List.length_cons, List.length_nil]; omega, id, fun _ => Nat.le_refl _⟩
   ·cases hs
 ·obtain ⟨n, hn, rfl⟩ := Option.map_eq_some_iff.1 hs
  exact ⟨id, id, fun h => by have : m.over.isSome = true := h; rw [h0] at this; cases this⟩
 ·obtain ⟨f, hf, hs⟩ := Option.bind_eq_some_iff.1 hs
  split at hs
  ·cases hs; exact ⟨fun h => by simp only [List.length_dropLast]; omega, id, fun _ => by simp only [List.length_take]; omega⟩
  ·cases hs
 ·obtain ⟨a, ha, hs⟩ := Option.bind_eq_some_iff.1 hs
  obtain ⟨v, hv, hs⟩ := Option.bind_eq_some_iff.1 hs
  obtain ⟨f, hf, hs⟩ := Option.bind_eq_some_iff.1 hs
  split at hs
  ·cases hs; exact ⟨fun h => by simp only [List.length_dropLast]; omega, id, fun h => by have : m.over.isSome = true := h; rw [h0] at this; cases this⟩
  ·cases hs
 ·obtain ⟨x, hx, rfl⟩ := Option.map_eq_some_iff.1 hs
  split
  ·exact ⟨id, id, fun _ => hd⟩
  ·exact ⟨id, id, fun _ => hd⟩
 ·cases hs
  split
  ·exact ⟨id, id, fun _ => Nat.le_refl _⟩
  ·exact ⟨id, id, fun h => by have : m.over.isSome = true := h; rw [h0] at this; cases this⟩
 ·split at hs
  ·obtain ⟨y, hy, hs⟩ := Option.bind_eq_some_iff.1 hs
   obtain ⟨x, hx, rfl⟩ := Option.map_eq_some_iff.1 hs
   split
   ·exact ⟨id, id, fun h => by have : m.over.isSome = true := h; rw [h0] at this; cases this⟩
   ·exact ⟨id, id, fun _ => hd2⟩
  ·cases hs
end Go.Proofs.YtklobognaldjpaaGreat
