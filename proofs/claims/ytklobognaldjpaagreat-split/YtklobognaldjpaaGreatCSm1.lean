/- Rooms: a round, as a plain room has it; Tick. Rooms: Tick. Plain: a job is laid into a room; it goes to its end. Rooms: Submit, as a plain room has it. Plain: rounds by evaluation; the example with tw -/
import Derived.Test.YtklobognaldjpaaGreatCRm8
import Derived.Test.YtklobognaldjpaaGreatCRp2
import Derived.Deep.LoopGhost
import Derived.Deep.CutRange
import Derived.Deep.DeepCutAuto
import Derived.Deep.RegionWith
import Derived.Test.YtklobognaldjpaaGreatCRn2
import Derived.Test.YtklobognaldjpaaGreatCPure5
import Derived.Test.YtklobognaldjpaaGreatCRun2
import Derived.Test.YtklobognaldjpaaGreatCEv1
import Derived.Test.YtklobognaldjpaaGreatCVo1
set_option maxRecDepth 1000000
set_option maxHeartbeats 4000000
namespace Go.Proofs.YtklobognaldjpaaGreat
open Go.RowKit
def JM.pj (J : JM) : PJ := ⟨J.W, J.fuel, J.m, J.num, J.done⟩
def jbAt (Js : List JM) (i : Nat) : Nat := match Js[i]? with
 | some J => J.jb
 | none => 0
structure RRep (w : World) (rb sl : Nat) (vj v : Value) (Js : List JM) (a : PRm) : Prop where
 room : RoomAt w rb sl vj v Js (a.hp.map (jbAt Js))
 same : Js.map JM.pj = a.js
section
variable {w w' w1 : World} {rb sl : Nat} {vj v vj' v' : Value} {Js Js' : List JM} {J : JM} {a b : PRm} {E : Nat -> MS}
theorem RRep.below (h : RRep w rb sl vj v Js a) (hb : Below w.heap.size w w') : RRep w' rb sl vj v Js a := ⟨h.room.below hb, h.same⟩
theorem RRep.at (h : RRep w rb sl vj v Js a) {i : Nat} {P : PJ} (hi : a.js[i]? = some P) : ∃ J, Js[i]? = some J /\ J.pj = P := by
 rw [<- h.same, List.getElem?_map] at hi
 obtain ⟨J, h1, h2⟩ := Option.map_eq_some_iff.1 hi
 exact ⟨J, h1, h2⟩
theorem jbAt_some {i : Nat} (hi : Js[i]? = some J) : jbAt Js i = J.jb := by unfold jbAt; rw [hi]
theorem jbAt_set {i : Nat} {J' : JM} (hi : Js[i]? = some J) (hj : J'.jb = J.jb) : jbAt (Js.set i J') = jbAt Js := by
 have hil : i < Js.length := (List.getElem?_eq_some_iff.1 hi).1
 funext x
 unfold jbAt
 rw [List.getElem?_set]
 by_cases e : i = x
 ·subst e; rw [if_pos rfl, if_pos hil, hi]; exact hj
 ·rw [if_neg e]
theorem ky_same (hd : Dis Js) {js : List PJ} (hs : Js.map JM.pj = js) {l : List Nat} (hl : ∀ x ∈ l, ∃ P, js[x]? = some P) : ∀ x ∈ l, kyOf Js (jbAt Js x) = kyP js x := fun x hx => by
 obtain ⟨P, hP⟩ := hl x hx
 have hP2 := hP
 rw [<- hs, List.getElem?_map] at hP
 obtain ⟨J, h1, h2⟩ := Option.map_eq_some_iff.1 hP
 rw [jbAt_some h1, ky_of hd (List.mem_of_getElem? h1)]
 unfold kyP
 rw [hP2, <- h2]
 rfl
theorem next_same (hd : Dis Js) {js : List PJ} (hs : Js.map JM.pj = js) {l : List Nat} (hne : l ≠ []) (hl : ∀ x ∈ l, ∃ P, js[x]? = some P) (over : Bool) : nextL Js over (l.map (jbAt Js)) = (nextP js over l).map (jbAt Js) := by
 have hk := ky_same hd hs hl
 unfold nextL nextP
 cases over with
 | true => rw [if_pos rfl, if_pos rfl, popL_map hne, popL_congr (ky' := kyP js) hne hk]
 | false => rw [if_neg (by simp), if_neg (by simp), fixL_map, fixL_congr (ky' := kyP js) hk]
def EndP (w : World) (o q : Option Nat) : Prop := (o = none /\ q = none) ∨ ∃ n jb, o = some n /\ q = some jb /\ w.cell? ⟨jb, 0, none⟩ = some (.int .i64 (n : Nat))
theorem round_rep (h : RRep w rb sl vj v Js a) (hg : PG E a) (hsl : sl <= 1000) : Calls Tryz.prog 59 #[.pointer (some ⟨rb, 2, none⟩), .int .i64 (sl : Nat)] w fun e w' => ∃ (b : PRm) (o q : Option Nat) (Js' : List JM) (v' : Value), Rd sl a b o /\ PG E b /\ e = .returned (.pointer (q.map fun x => ⟨x, 0, none⟩)) /\ EndP w' o q /\ RRep w' rb sl vj v' Js' b /\ RM rb vj v Js vj v' Js' w w' := by
 obtain ⟨js, hp⟩ := a
 cases hp with
 | nil =>
  refine (round_none h.room sl).mono ?_
  rintro e w' ⟨rfl, rfl⟩
  exact ⟨_, none, none, Js, v, .none js, hg, rfl, .inl ⟨rfl, rfl⟩, h, RM.refl _ _ _ _ _⟩
 | cons i t =>
  obtain ⟨P, hP, hPd⟩ := hg.hin i (by simp)
  obtain ⟨J, hJ, hJP⟩ := h.at hP
  have hG := hg.good i P hP
  obtain ⟨n, m', b, hT, hG2, _, _, _⟩ := good_turn hG sl
  subst hJP
  have hjb : J.jb = jbAt Js i := (jbAt_some hJ).symm
  have h5 := hg.h5
  refine (round_any (t := t.map (jbAt Js)) h.room (by simp at h5 ⊢; omega) hJ hjb hPd (by have := hG.wl; show J.W.length <= _; exact Nat.le_trans this (by omega)) hG.wk hT (by have h1 := hG.us; have h2 := hG.fu; have h3 : J.m.used <= J.fuel := h1; have h4 : J.fuel <= 3000 := h2; omega)).mono ?_
  rintro e w' ⟨rfl, R', vi', v', hR, hM⟩
  have hs : (Js.set i (J.after m' (J.m.used + sl) b R' vi')).map JM.pj = js.set i (J.pj.after m') := by
   rw [List.map_set, h.same]; rfl
  have hil : i < js.length := (List.getElem?_eq_some_iff.1 hP).1
  have hlx : ∀ x ∈ i :: t, ∃ P, (js.set i (J.pj.after m'))[x]? = some P := fun x hx => by
   rw [set_at hil]
   by_cases e : i = x
   ·rw [if_pos e]; exact ⟨_, rfl⟩
   ·rw [if_neg e]; obtain ⟨Q, q1, _⟩ := hg.hin x hx; exact ⟨Q, q1⟩
  have hjs : jbAt (Js.set i (J.after m' (J.m.used + sl) b R' vi')) = jbAt Js := jbAt_set hJ rfl
  have hn := next_same hR.dis hs (l := i :: t) (by simp) hlx m'.over.isSome
  rw [hjs] at hn
  have hmap : (jbAt Js i :: t.map (jbAt Js)) = (i :: t).map (jbAt Js) := rfl
  rw [hmap, hn] at hR
  have hJm : J.after m' (J.m.used + sl) b R' vi' ∈ Js.set i (J.after m' (J.m.used + sl) b R' vi') := by
   have hil2 : i < Js.length := (List.getElem?_eq_some_iff.1 hJ).1
   exact List.mem_of_getElem? (i := i) (by rw [List.getElem?_set_self hil2])
  have hc0 := (hR.job _ hJm).cel 0 _ rfl
  refine ⟨⟨js.set i (J.pj.after m'), nextP (js.set i (J.pj.after m')) m'.over.isSome (i :: t)⟩, if m'.over.isSome then some J.num else none, if m'.over.isSome then some (jbAt Js i) else none, _, v', .turn hP hPd hT, rd_good hg hP hG2, ?_, ?_, ⟨by rw [hjs]; exact hR, hs⟩, hM⟩
  ·cases m'.over.isSome <;> rfl
  ·cases ho : m'.over.isSome with
   | true => exact .inr ⟨J.num, jbAt Js i, rfl, rfl, by rw [<- hjb]; exact hc0⟩
   | false => exact .inl ⟨rfl, rfl⟩
end
section
variable {w w' w1 : World} {rb sl : Nat} {vj v vj' v' : Value} {Js Js' : List JM} {J : JM} {a b : PRm} {E : Nat -> MS}
theorem rds_len {k : Nat} {l : List Nat} (h : Rds sl k a b l) : l.length <= k := by
 induction h with
 | zero a => simp
 | @succ k a b c l o _ _ ih =>
  rw [List.length_append]
  cases o with
  | none => simp; omega
  | some x => simp; omega
theorem rm_new {w4 : World} (h : RM rb vj v Js vj' v' Js' w w1) (hb : Below w1.heap.size w1 w4) : RM rb vj v Js vj' v' Js' w w4 := ⟨h.fr.trans (Fr.of_below hb), h.nw⟩
theorem tick_any (h : RRep w rb sl vj v Js a) (hg : PG E a) (hsl : sl <= 1000) {k : Nat} (hk : k <= 500) : Calls Tryz.prog 33 #[.pointer (some ⟨rb, 0, none⟩), .int .i64 (k : Nat)] w fun e w' => ∃ (b : PRm) (l : List Nat) (Js' : List JM) (v' : Value) (la : Option Addr) (lc : Nat), Rds sl k a b l /\ PG E b /\ e = .returned (.tuple #[.slice la l.length lc, .int .i64 0]) /\ w'.ownsRow w.heap.size 3 1 (.slice la l.length lc) l.length (l.map fun (x : Nat) => Value.int .i64 (x : Int)) /\ (∀ x, RFoot rb vj v' Js' x -> (Value.slice la l.length lc).ownBlock ≠ some x) /\ RRep w' rb sl vj v' Js' b /\ RM rb vj v Js vj v' Js' w w' := by
 obtain ⟨i0, hi, hz0, hz1, hz2⟩ := info_parts Tryz.infoIntC
 have e1 : ¬ (k : Int) < 0 := by omega
 have e2 : ¬ (k : Int) > 500 := by omega
 have HI : Hid (RRep w rb sl vj v Js a /\ PG E a) := ⟨h, hg⟩
 clear h hg
 go_enter Tryz.func33, Tryz.ntmps33
 go_wp2
 go_loopw [6, 15] (fun s t wr => ∃ (j : Nat) (b : PRm) (l : List Nat) (Js' : List JM) (v' : Value), t = .int .i64 j /\ j <= k /\ Rds sl j a b l /\ PG E b /\ wr.ownsRow w.heap.size 3 1 s l.length (l.map fun (x : Nat) => Value.int .i64 (x : Int)) /\ (∀ x, RFoot rb vj v' Js' x -> s.ownBlock ≠ some x) /\ RRep wr rb sl vj v' Js' b /\ RM rb vj v Js vj v' Js' w wr) (fun _ t _ => k - (intOf t).toNat)
 case atStart => exact ⟨0, a, [], Js, v, rfl, Nat.zero_le _, .zero a, HI.out.2, World.ownsRow_nil _ _ _ _, fun x _ => by simp [Value.ownBlock], HI.out.1, RM.refl _ _ _ _ _⟩
 case round =>
  obtain ⟨j, b, l, Js', v', rfl, hj, hRd, hG, hown, hoff, hR, hM⟩ := hrel
  by_cases hlt : j < k
  ·have hji : (j : Int) < (k : Int) := by omega
   have hRw := round_rep (hR.below (Below.refl _ _).drew) hG hsl
   have c0 := hR.room.c0
   have hlen := rds_len hRd
   have HC : Hid (∀ (w2 : World) (b2 : PRm) (o : Option Nat) (Js2 : List JM) (v2 : Value), Rd sl b b2 o -> RRep w2 rb sl vj v2 Js2 b2 -> RM rb vj v' Js' vj v2 Js2 wr.drew w2 -> Rds sl (j + 1) a b2 (l ++ o.toList) /\ w2.ownsRow w.heap.size 3 1 u6 l.length (l.map fun (x : Nat) => Value.int .i64 (x : Int)) /\ (∀ x, RFoot rb vj v2 Js2 x -> u6.ownBlock ≠ some x) /\ RM rb vj v Js vj v2 Js2 w w2 /\ w.heap.size <= w2.heap.size) := fun w2 b2 o Js2 v2 h1 h2 h3 => by
    have hM2 : RM rb vj v Js vj v2 Js2 w w2 := (rm_new hM (Below.refl _ _).drew).trans h3
    refine ⟨.succ hRd h1, ?_, fun x hx e => ?_, hM2, hM2.fr.size⟩
    ·exact row_kept hown.drew fun k e => h3.fr.block k (hown.drew.lt k e).2 fun e2 => hoff k e2 e
    ·rcases h3.nw x hx with h4 | h4
     ·exact hoff x h4 e
     ·have := (hown.drew.lt x e).2; omega
   obtain ⟨sa, sc, hsv⟩ := owned_slice hown
   subst hsv
   clear hown hoff hR hM hG hRd
   go_upto_region 6 with fail
   go_cut [7, 15] from 15 to 32 (fun s7 s15 wx => s15 = .int .i64 (j : Nat) /\ ∃ (b2 : PRm) (o q : Option Nat) (Js2 : List JM) (v2 : Value), s7 = .pointer (q.map fun x => ⟨x, 0, none⟩) /\ EndP wx o q /\ Hid (Rd sl b b2 o /\ PG E b2 /\ RRep wx rb sl vj v2 Js2 b2 /\ RM rb vj v' Js' vj v2 Js2 wr.drew wx))
   case first =>
    go_region_with (go_at_call 59; refine hRw.mono ?_; rintro e w2 ⟨b2, o, q, Js2, v2, h1, h2, rfl, h3, h4, h5⟩)
    all_goals go_wp2_with fail
    all_goals go_meet
    all_goals exact ⟨rfl, b2, o, q, Js2, v2, rfl, h3, h1, h2, h4, h5⟩
   case rest =>
   obtain ⟨rfl, b2, o, q, Js2, v2, rfl, hE, HH⟩ := hcut
   rcases hE with ⟨rfl, rfl⟩ | ⟨n, jb, rfl, rfl, hn⟩
   ·obtain ⟨t1, t2, t3, t4, t5⟩ := HC.out _ b2 none Js2 v2 HH.out.1 HH.out.2.2.1 HH.out.2.2.2
    have HT : Hid _ := And.intro t1 (And.intro t2 (And.intro t3 t4))
    clear t1 t2 t3 t4 HC
    go_wp2
    go_roundw
    case rel => exact ⟨j + 1, b2, l ++ [], Js2, v2, by go_num, by omega, HT.out.1, HH.out.2.1, by rw [List.append_nil]; exact HT.out.2.1, HT.out.2.2.1, HH.out.2.2.1, HT.out.2.2.2⟩
    case measure => simp [intOf]; omega
   ·obtain ⟨t1, t2, t3, t4, t5⟩ := HC.out _ b2 (some n) Js2 v2 HH.out.1 HH.out.2.2.1 HH.out.2.2.2
    have HT : Hid (Rds sl (j + 1) a b2 (l ++ [n]) /\ (∀ x, RFoot rb vj v2 Js2 x -> (Value.slice sa l.length sc).ownBlock ≠ some x) /\ RM rb vj v Js vj v2 Js2 w wc) := ⟨t1, t3, t4⟩
    have hown2 := t2
    clear t1 t2 t3 t4 HC
    go_wp2_with (first
     | (go_at_call 60; refine (jnumber_any hn).mono ?_; rintro e w6 ⟨rfl, h9⟩; cases h9)
     | (at_builtin; go_loud (refine wpList_append_own2 rfl _ _ 23 rfl w.heap.size 3 i0 _ 1 8 Tryz.underlying23 hi hz0 hz1 hz2 rfl (by decide) _ _ _ rfl (hown2.alloc _) ⟨wc.heap.size, 0, none⟩ 1 1 [.int .i64 (n : Nat)] rfl (by simp) (by intro j u hj; cases j with | zero => simp at hj; subst hj; simp [Addr.add] | succ j => simp at hj) (by intro u hu; simp at hu; subst hu; rfl) (by unfold maxLen; omega) (by omega) (by simp; omega) ?_); go_loud (intro v5 w5 hown5 hg5 hn5; have HN5 : Hid (w5.ownsRow w.heap.size 3 1 v5 (l ++ [n]).length ((l ++ [n]).map fun (x : Nat) => Value.int .i64 (x : Int)) /\ (v5.ownBlock = (Value.slice sa l.length sc).ownBlock ∨ ∀ k, v5.ownBlock = some k -> (wc.alloc (.cells #[.int .i64 (n : Nat)] 3)).heap.size <= k) /\ Fr (fun b => (Value.slice sa l.length sc).ownBlock = some b) wc w5) := ⟨(by rw [List.length_append, List.map_append]; exact hown5), hn5, (Fr.of_below ((Below.refl _ _).alloc (Nat.le_refl _) _)).trans ⟨hg5.os, hg5.tape, hg5.output, hg5.size, fun k hk hn => hg5.block k hk fun e => hn e.symm⟩⟩; obtain ⟨oa, oc, hvv⟩ := owned_slice HN5.out.1; subst hvv)))
    go_roundw
    case rel =>
     have hll : (l ++ [n]).length = l.length + 1 := by simp
     have hs1 : (wc.alloc (.cells #[.int .i64 (n : Nat)] 3)).heap.size = wc.heap.size + 1 := by simp
     have hF5 := HN5.out.2.2
     have hfo : ∀ x, RFoot rb vj v2 Js2 x -> w5.heap[x]? = wc.heap[x]? := fun x hx => hF5.block x (HH.out.2.2.1.room.footlt hx) (HT.out.2.1 x hx)
     refine ⟨j + 1, b2, l ++ [n], Js2, v2, by go_num, by omega, HT.out.1, HH.out.2.1, by have h := HN5.out.1; rw [hll] at h ⊢; exact h, fun x hx e => ?_, ⟨HH.out.2.2.1.room.same hF5.size hfo, HH.out.2.2.1.same⟩, ?_⟩
     ·rw [<- hll] at e
      rcases HN5.out.2.1 with h1 | h1
      ·exact HT.out.2.1 x hx (by rw [<- h1]; exact e)
      ·have h2 := h1 x e
       have h3 := HH.out.2.2.1.room.footlt hx
       omega
     ·have hM4 := HT.out.2.2
      refine ⟨⟨hF5.os.trans hM4.fr.os, hF5.tape.trans hM4.fr.tape, hF5.output.trans hM4.fr.output, Nat.le_trans hM4.fr.size hF5.size, fun k hk hn2 => ?_⟩, hM4.nw⟩
      refine (hF5.block k (Nat.lt_of_lt_of_le hk hM4.fr.size) fun e => ?_).trans (hM4.fr.block k hk hn2)
      have := (hown2.lt k e).1
      omega
    case measure => simp [intOf]; omega
  ·have hji : ¬ (j : Int) < (k : Int) := by omega
   have hjk : j = k := by omega
   obtain ⟨sa, sc, hsv⟩ := owned_slice hown
   subst hsv
   have HT : Hid _ := And.intro hRd (And.intro hG (And.intro hown (And.intro hoff (And.intro hR hM))))
   clear hRd hG hown hoff hR hM
   go_wp2
   go_ret2
   exact ⟨b, l, hjk ▸ HT.out.1, HT.out.2.1, Js', v', sa, sc, rfl, HT.out.2.2.1, HT.out.2.2.2.1, HT.out.2.2.2.2.1, HT.out.2.2.2.2.2⟩
end
theorem start_good {l : List UInt8} {zs : List Int} {fuel num : Nat} (hc : (checkP l).1 = 0) (hf : fuel <= 3000) :
  ∃ mE, GoodJ ⟨(cPr (treeOf l)).1, fuel, m0 (cPr (treeOf l)) zs, num, false⟩ mE /\ mE.over = some (outcome (treeOf l) zs fuel).1 /\ mE.out = (outcome (treeOf l) zs fuel).2.1 /\ mE.used = (outcome (treeOf l) zs fuel).2.2 := by
 obtain ⟨hP, _, _⟩ := passed_of hc
 obtain ⟨T2, hT601, hwh⟩ := hP.wh
 have hlen5 : (cPr (treeOf l)).1.length <= 5000 := by have := hP.len; omega
 obtain ⟨hLe, _⟩ := bw_program hwh hT601 hP.look hlen5
 obtain ⟨m', hr, ho, hu1, hu2⟩ := run_code hwh hT601 hP.look hlen5 zs fuel
 exact ⟨m', ⟨hr, by rw [ho]; rfl, Nat.zero_le _, Nat.zero_le _, hf, hlen5, hLe⟩, ho, hu1, hu2⟩
def pushP (a : PRm) (P : PJ) : PRm := ⟨a.js ++ [P], upL (kyP (a.js ++ [P])) (a.hp.length + 1) (a.hp ++ [a.js.length]) a.hp.length⟩
theorem push_good {E : Nat -> MS} {a : PRm} (h : PG E a) (hl : a.js.length <= 4) (hh : a.hp.length <= 4) {P : PJ} (hd : P.done = false) (hg : GoodJ P (E a.js.length)) : PG E (pushP a P) := by
 have hp : (pushP a P).hp.Perm (a.hp ++ [a.js.length]) := upL_perm _ _ _ _ (by simp)
 have hcase : ∀ x (X : PJ), (a.js ++ [P])[x]? = some X -> (x < a.js.length /\ a.js[x]? = some X) ∨ (x = a.js.length /\ X = P) := fun x X hx => by
  by_cases hl : x < a.js.length
  ·rw [List.getElem?_append_left hl] at hx; exact .inl ⟨hl, hx⟩
  ·rw [List.getElem?_append_right (by omega)] at hx
   have : x - a.js.length = 0 := by
    by_cases h0 : x - a.js.length = 0
    ·exact h0
    ·rw [List.getElem?_eq_none (by simp; omega)] at hx; cases hx
   rw [this] at hx
   exact .inr ⟨by omega, (Option.some.inj hx).symm⟩
 have hlt : ∀ i ∈ a.hp, i < a.js.length := fun i hi => by
  obtain ⟨Q, q1, _⟩ := h.hin i hi
  exact (List.getElem?_eq_some_iff.1 q1).1
 refine ⟨fun i hi => ?_, hp.nodup_iff.2 ?_, fun i Q hi hq => hp.mem_iff.2 ?_, fun i Q hi => ?_, ?_, ?_⟩
 ·rcases List.mem_append.1 (hp.mem_iff.1 hi) with h1 | h1
  ·obtain ⟨Q, q1, q2⟩ := h.hin i h1
   exact ⟨Q, by show (a.js ++ [P])[i]? = _; rw [List.getElem?_append_left (hlt i h1)]; exact q1, q2⟩
  ·rw [List.mem_singleton] at h1
   subst h1
   exact ⟨P, by show (a.js ++ [P])[a.js.length]? = _; simp, hd⟩
 ·rw [List.nodup_append]
  refine ⟨h.nd, by simp, fun x hx y hy e => ?_⟩
  rw [List.mem_singleton] at hy
  have := hlt x hx
  omega
 ·rcases hcase i Q hi with ⟨h1, h2⟩ | ⟨h1, h2⟩
  ·exact List.mem_append_left _ (h.all i Q h2 hq)
  ·rw [h1]; simp
 ·rcases hcase i Q hi with ⟨h1, h2⟩ | ⟨h1, h2⟩
  ·exact h.good i Q h2
  ·rw [h1, h2]; exact hg
 ·show (a.js ++ [P]).length <= 5
  simp; omega
 ·rw [hp.length_eq]; simp; omega
section
variable {w w' w1 : World} {rb sl : Nat} {vj v vj' v' : Value} {Js Js' : List JM} {J : JM} {a b : PRm} {E : Nat -> MS}
def jobP (l : List UInt8) (zs : List Int) (fuel num : Nat) : PJ := ⟨(cPr (treeOf l)).1, fuel, m0 (cPr (treeOf l)) zs, num, false⟩
theorem submit_rep (h : RRep w rb sl vj v Js a) (hg : PG E a) (hJl : a.js.length <= 4) {l : List UInt8} {vin : Value} {zs : List Int} {fuel : Nat} (hin : IntsAt w vin zs) (hzl : zs.length <= 35184372088831) (hc : (checkP l).1 = 0) (hf : fuel <= 3000) (hok : okIn zs = true) :
  Calls Tryz.prog 53 #[.pointer (some ⟨rb, 0, none⟩), .string ⟨l.toArray⟩, vin, .int .i64 (fuel : Nat)] w fun e w' => e = .returned (.tuple #[.int .i64 ((a.js.length : Int) + 1), .int .i64 0, .int .i64 0]) /\ ∃ Js' vj' v', RRep w' rb sl vj' v' Js' (pushP a (jobP l zs fuel (a.js.length + 1))) /\ RM rb vj v Js vj' v' Js' w w' := by
 have hlen : Js.length = a.js.length := by rw [<- h.same, List.length_map]
 have hmap : a.hp.map (jbAt Js) = a.hp.map (jbAt Js) := rfl
 refine (submit_ok h.room (by omega) (by rw [List.length_map]; exact hg.h5) hin hzl hc hf hok).mono ?_
 rintro e w' ⟨rfl, J, vj', v', ⟨j1, j2, j3, j4, j5⟩, hR, hM⟩
 rw [hlen]
 refine ⟨rfl, Js ++ [J], vj', v', ⟨?_, ?_⟩, hM⟩
 ·have hpj : J.pj = jobP l zs fuel (a.js.length + 1) := by
   unfold JM.pj jobP
   rw [j1, j2, j3, j4, j5, hlen]
  have hs : (Js ++ [J]).map JM.pj = a.js ++ [jobP l zs fuel (a.js.length + 1)] := by rw [List.map_append, h.same, <- hpj]; rfl
  have hlt : ∀ i ∈ a.hp, i < Js.length := fun i hi => by
   obtain ⟨Q, q1, _⟩ := hg.hin i hi
   rw [hlen]
   exact (List.getElem?_eq_some_iff.1 q1).1
  have e1 : a.hp.map (jbAt Js) ++ [J.jb] = (a.hp ++ [a.js.length]).map (jbAt (Js ++ [J])) := by
   rw [List.map_append]
   congr 1
   ·refine List.map_congr_left fun i hi => ?_
    unfold jbAt
    rw [List.getElem?_append_left (hlt i hi)]
   ·simp only [List.map_cons, List.map_nil]
    unfold jbAt
    rw [<- hlen, List.getElem?_append_right (Nat.le_refl _), Nat.sub_self]
    rfl
  have hl2 : (a.hp.map (jbAt Js)).length = a.hp.length := List.length_map _
  rw [hl2, e1] at hR
  have hk := ky_same hR.dis hs (l := a.hp ++ [a.js.length]) (fun x hx => by
   rcases List.mem_append.1 hx with hx | hx
   ·have := hlt x hx
    exact ⟨a.js[x]'(by omega), by rw [List.getElem?_append_left (by omega)]; exact List.getElem?_eq_getElem _⟩
   ·rw [List.mem_singleton] at hx
    subst hx
    exact ⟨_, by rw [List.getElem?_append_right (Nat.le_refl _), Nat.sub_self]; rfl⟩)
  have e2 : upL (kyOf (Js ++ [J])) (a.hp.length + 1) ((a.hp ++ [a.js.length]).map (jbAt (Js ++ [J]))) a.hp.length = (pushP a (jobP l zs fuel (a.js.length + 1))).hp.map (jbAt (Js ++ [J])) := by
   rw [upL_map _ _ _ _ _ (by simp)]
   unfold pushP
   rw [upL_congr (ky' := kyP (a.js ++ [jobP l zs fuel (a.js.length + 1)])) _ _ _ hk (by simp)]
  rw [e2] at hR
  exact hR
 ·show (Js ++ [J]).map JM.pj = a.js ++ [jobP l zs fuel (a.js.length + 1)]
  have hpj : J.pj = jobP l zs fuel (a.js.length + 1) := by
   unfold JM.pj jobP
   rw [j1, j2, j3, j4, j5, hlen]
  rw [List.map_append, h.same, <- hpj]; rfl
end
def turnE (W : List Nat) (fuel limit : Nat) : Nat -> MS -> Option (MS × Bool)
 | 0, _ => none
 | k + 1, m =>
  if m.over.isSome then some (m, false)
  else if W[m.pc]? = some 1 /\ m.used ≠ fuel /\ m.used = limit then some (m, true)
  else if m.stack.length <= 1000000 /\ m.used <= 1000000 then
   match stepM W fuel m with
   | some m1 => if m1.stack.length <= 1000000 then turnE W fuel limit k m1 else none
   | none => none
  else none
theorem turnE_trn {W : List Nat} {fuel limit : Nat} : ∀ (k : Nat) (m m' : MS) (b : Bool), turnE W fuel limit k m = some (m', b) -> ∃ n, Trn W fuel limit n m m' b
 | 0, _, _, _, h => by cases h
 | k + 1, m, m', b, h => by
  rw [turnE] at h
  by_cases h0 : m.over.isSome = true
  ·rw [if_pos h0] at h; cases h; exact ⟨0, .over m h0⟩
  ·rw [if_neg h0] at h
   have h0' : m.over = none := by cases hm : m.over with | none => rfl | some x => rw [hm] at h0; exact absurd rfl h0
   by_cases h1 : W[m.pc]? = some 1 /\ m.used ≠ fuel /\ m.used = limit
   ·rw [if_pos h1] at h; cases h; exact ⟨1, .wait m h0' h1.1 h1.2.1 h1.2.2⟩
   ·rw [if_neg h1] at h
    by_cases h2 : m.stack.length <= 1000000 /\ m.used <= 1000000
    ·rw [if_pos h2] at h
     cases hs : stepM W fuel m with
     | none => rw [hs] at h; cases h
     | some m1 =>
      rw [hs] at h
      simp only at h
      by_cases h3 : m1.stack.length <= 1000000
      ·rw [if_pos h3] at h
       obtain ⟨n, hn⟩ := turnE_trn k m1 m' b h
       exact ⟨n + 1, .step h0' (fun a1 a2 a3 => h1 ⟨a1, a2, a3⟩) h2.1 h3 h2.2 hs hn⟩
      ·rw [if_neg h3] at h; cases h
    ·rw [if_neg h2] at h; cases h
def roundE (sl : Nat) (a : PRm) : Option (PRm × Option Nat) := match a.hp with
 | [] => some (⟨a.js, []⟩, none)
 | i :: t => match a.js[i]? with
  | none => none
  | some P => if P.done then none else match turnE P.W P.fuel (P.m.used + sl) 1000 P.m with
   | none => none
   | some x => some (⟨a.js.set i (P.after x.1), nextP (a.js.set i (P.after x.1)) x.1.over.isSome (i :: t)⟩, if x.1.over.isSome then some P.num else none)
theorem roundE_rd {sl : Nat} {a b : PRm} {o : Option Nat} (h : roundE sl a = some (b, o)) : Rd sl a b o := by
 obtain ⟨js, hp⟩ := a
 cases hp with
 | nil => cases h; exact .none js
 | cons i t =>
  unfold roundE at h
  simp only at h
  cases hP : js[i]? with
  | none => rw [hP] at h; cases h
  | some P =>
   rw [hP] at h
   simp only at h
   by_cases hd : P.done = true
   ·rw [if_pos hd] at h; cases h
   ·rw [if_neg hd] at h
    cases hx : turnE P.W P.fuel (P.m.used + sl) 1000 P.m with
    | none => rw [hx] at h; cases h
    | some x =>
     rw [hx] at h
     obtain ⟨m', c⟩ := x
     obtain ⟨n, hn⟩ := turnE_trn _ _ _ _ hx
     cases h
     exact .turn hP (by simpa using hd) hn
def roundsE (sl : Nat) : Nat -> PRm -> Option (PRm × List Nat)
 | 0, a => some (a, [])
 | k + 1, a => match roundsE sl k a with
  | none => none
  | some x => match roundE sl x.1 with
   | none => none
   | some y => some (y.1, x.2 ++ y.2.toList)
theorem roundsE_rds {sl : Nat} : ∀ {k : Nat} {a b : PRm} {l : List Nat}, roundsE sl k a = some (b, l) -> Rds sl k a b l
 | 0, a, b, l, h => by cases h; exact .zero _
 | k + 1, a, b, l, h => by
  rw [roundsE] at h
  cases hx : roundsE sl k a with
  | none => rw [hx] at h; cases h
  | some x =>
   rw [hx] at h
   simp only at h
   cases hy : roundE sl x.1 with
   | none => rw [hy] at h; cases h
   | some y =>
    rw [hy] at h
    obtain ⟨x1, x2⟩ := x
    obtain ⟨y1, y2⟩ := y
    cases h
    exact .succ (roundsE_rds hx) (roundE_rd hy)
def exL : List UInt8 := [98, 101, 103, 105, 110, 32, 119, 114, 105, 116, 101, 32, 49, 59, 32, 119, 114, 105, 116, 101, 32, 50, 59, 32, 119, 114, 105, 116, 101, 32, 51, 32, 101, 110, 100, 46]
def exJ (num : Nat) : PJ := ⟨(cPr (treeE exL)).1, 9, m0 (cPr (treeE exL)) [], num, false⟩
def exR : PRm := pushP (pushP ⟨[], []⟩ (exJ 1)) (exJ 2)
theorem ex_check : checkP exL = (0, 0) := by rw [<- checkE_eq]; kernel_rfl
theorem ex_three : (roundsE 2 3 exR).map (·.2) = some [1] := by kernel_rfl
theorem ex_four : ((roundsE 2 3 exR).bind fun x => roundsE 2 1 x.1).map (·.2) = some [2] := by kernel_rfl
theorem ex_rounds {b : PRm} {l : List Nat} (h : Rds 2 3 exR b l) : l = [1] /\ ∀ {c : PRm} {m : List Nat}, Rds 2 1 b c m -> m = [2] := by
 have h3 := ex_three
 have h4 := ex_four
 cases hx : roundsE 2 3 exR with
 | none => rw [hx] at h3; cases h3
 | some x =>
  rw [hx] at h3 h4
  obtain ⟨x1, x2⟩ := x
  obtain ⟨rfl, rfl⟩ := rds_one h (roundsE_rds hx)
  have e : l = [1] := by simpa using h3
  refine ⟨e, fun {c m} h5 => ?_⟩
  cases hy : roundsE 2 1 b with
  | none => simp only [Option.bind_some] at h4; rw [hy] at h4; cases h4
  | some y =>
   simp only [Option.bind_some] at h4
   rw [hy] at h4
   obtain ⟨y1, y2⟩ := y
   obtain ⟨rfl, rfl⟩ := rds_one h5 (roundsE_rds hy)
   simpa using h4
theorem below_of_rm {rb lo : Nat} {vj v vj' v' : Value} {Js Js' : List JM} {w w' : World} (h : RM rb vj v Js vj' v' Js' w w') (hs : ∀ b, RFoot rb vj v Js b -> lo <= b) (hl : lo <= w.heap.size) : Below lo w w' :=
 ⟨h.fr.os, h.fr.tape, h.fr.output, h.fr.size, fun k hk => by
  exact h.fr.block k (by omega) fun e => by have := hs k e; omega⟩
theorem ex_job (num : Nat) : exJ num = jobP exL [] 9 num := by
 unfold exJ jobP
 rw [treeE_eq]
def ExAt (w w' : World) (a : PRm) : Prop := ∃ Js vj v, RRep w' w.heap.size 2 vj v Js a /\ RM w.heap.size (.slice none 0 0) (.slice none 0 0) [] vj v Js (w.alloc (.cells #[.int .i64 2, .slice none 0 0, .slice none 0 0] 109)) w'
theorem ex_below {w w' : World} {a : PRm} (h : ExAt w w' a) : Below w.heap.size w w' := by
 obtain ⟨Js, vj, v, _, hM⟩ := h
 refine ((Below.refl _ _).alloc (Nat.le_refl _) _).trans (below_of_rm hM (fun b hb => ?_) (by simp))
 rcases hb with e | e | e | ⟨J, hJ, _⟩
 ·omega
 ·simp [Value.ownBlock] at e
 ·simp [Value.ownBlock] at e
 ·cases hJ
theorem turning_any (w : World) : Calls Tryz.prog 31 #[] w fun e w' => e = .returned (.bool true) /\ Below w.heap.size w w' := by
 obtain ⟨mE, hgE, _, _, _⟩ := start_good (l := exL) (zs := []) (fuel := 9) (num := 1) (by rw [ex_check]) (by omega)
 have hgJ : ∀ num, GoodJ (jobP exL [] 9 num) mE := fun num => ⟨hgE.rch, hgE.fin, hgE.ca, hgE.us, hgE.fu, hgE.wl, hgE.wk⟩
 have g0 : PG (fun _ => mE) ⟨[], []⟩ := ⟨(fun i hi => by cases hi), (by simp), (fun i P hi => by simp at hi), (fun i P hi => by simp at hi), (by simp), (by simp)⟩
 have g1 : PG (fun _ => mE) (pushP ⟨[], []⟩ (jobP exL [] 9 1)) := push_good g0 (by simp) (by simp) rfl (hgJ 1)
 have hl1 : (pushP ⟨[], []⟩ (jobP exL [] 9 1)).js.length = 1 := rfl
 have g2 : PG (fun _ => mE) exR := by
  have e : exR = pushP (pushP ⟨[], []⟩ (jobP exL [] 9 1)) (jobP exL [] 9 2) := by unfold exR; rw [ex_job, ex_job]
  rw [e]
  exact push_good g1 (by rw [hl1]; omega) (by have := upL_len (kyP [jobP exL [] 9 1]) 1 [0] 0; show (upL (kyP [jobP exL [] 9 1]) 1 [0] 0).length <= 4; rw [this]; simp) rfl (hgJ 2)
 have hN : Calls Tryz.prog 51 #[.int .i64 2] w fun e w' => e = .returned (.tuple #[.pointer (some ⟨w.heap.size, 0, none⟩), .int .i64 0]) /\ w' = (w.alloc (.cells #[.int .i64 2, .slice none 0 0, .slice none 0 0] 109)) := newRoom_any (n := 2) (by omega) (by omega) w
 have hS1 : Calls Tryz.prog 53 #[.pointer (some ⟨w.heap.size, 0, none⟩), .string ⟨exL.toArray⟩, .slice none 0 0, .int .i64 9] (w.alloc (.cells #[.int .i64 2, .slice none 0 0, .slice none 0 0] 109)) fun e w2 => e = .returned (.tuple #[.int .i64 1, .int .i64 0, .int .i64 0]) /\ Hid (ExAt w w2 (pushP ⟨[], []⟩ (jobP exL [] 9 1))) := by
  refine (submit_rep (a := ⟨[], []⟩) (Js := []) (fuel := 9) ⟨room_new w 2, rfl⟩ g0 (by simp) (IntsAt.nil _) (by simp) (by rw [ex_check]) (by omega) rfl).mono ?_
  rintro e w2 ⟨rfl, Js, vj, v, h1, h2⟩
  exact ⟨rfl, Js, vj, v, h1, h2⟩
 have HS2 : Hid (∀ w2, ExAt w w2 (pushP ⟨[], []⟩ (jobP exL [] 9 1)) -> Calls Tryz.prog 53 #[.pointer (some ⟨w.heap.size, 0, none⟩), .string ⟨exL.toArray⟩, .slice none 0 0, .int .i64 9] w2 fun e w3 => e = .returned (.tuple #[.int .i64 2, .int .i64 0, .int .i64 0]) /\ Hid (ExAt w w3 exR)) := fun w2 hx => by
  obtain ⟨Js, vj, v, h1, h2⟩ := hx
  refine (submit_rep (fuel := 9) h1 g1 (by rw [hl1]; omega) (IntsAt.nil _) (by simp) (by rw [ex_check]) (by omega) rfl).mono ?_
  rintro e w3 ⟨rfl, Js', vj', v', h3, h4⟩
  refine ⟨rfl, Js', vj', v', ?_, h2.trans h4⟩
  have e : exR = pushP (pushP ⟨[], []⟩ (jobP exL [] 9 1)) (jobP exL [] 9 2) := by unfold exR; rw [ex_job, ex_job]
  rw [e]
  exact h3
 have HT3 : Hid (∀ w3, ExAt w w3 exR -> Calls Tryz.prog 33 #[.pointer (some ⟨w.heap.size, 0, none⟩), .int .i64 3] w3 fun e w4 => ∃ la lc, e = .returned (.tuple #[.slice la 1 lc, .int .i64 0]) /\ Hid (Calls Tryz.prog 33 #[.pointer (some ⟨w.heap.size, 0, none⟩), .int .i64 1] w4 fun e w5 => ∃ ma mc, e = .returned (.tuple #[.slice ma 1 mc, .int .i64 0]) /\ Hid (IntsC w5 (.slice la 1 lc) [1] /\ IntsC w5 (.slice ma 1 mc) [2] /\ Below w.heap.size w w5))) := fun w3 hx => by
  obtain ⟨Js, vj, v, h1, h2⟩ := hx
  refine (tick_any h1 g2 (by omega) (k := 3) (by omega)).mono ?_
  rintro e w4 ⟨b, l, Js4, v4, la, lc, r1, r2, rfl, r3, r4, r5, r6⟩
  obtain ⟨rfl, hn⟩ := ex_rounds r1
  refine ⟨la, lc, rfl, ?_⟩
  refine (tick_any r5 r2 (by omega) (k := 1) (by omega)).mono ?_
  rintro e w5 ⟨c, m, Js5, v5, ma, mc, s1, s2, rfl, s3, s4, s5, s6⟩
  obtain rfl := hn s1
  have k3 : w5.ownsRow w3.heap.size 3 1 (.slice la 1 lc) 1 ([1].map fun (x : Nat) => Value.int .i64 (x : Int)) := row_kept r3 fun k e => s6.fr.block k (r3.lt k e).2 fun e2 => r4 k e2 e
  exact ⟨ma, mc, rfl, IntsC.own (zs := [1]) k3 (by simp), IntsC.own (zs := [2]) s3 (by simp), ex_below ⟨Js5, _, v5, s5, (h2.trans r6).trans s6⟩⟩
 have HI : Hid (∀ (y : Int), -9223372036854775808 <= y -> y <= 9223372036854775807 -> ∀ (W : World) (n : Nat), n = W.heap.size -> IntsC (W.alloc (.cells #[.int .i64 y] 3)) (.slice (some ⟨n, 0, none⟩) 1 1) [y]) := fun y h1 h2 W n hn => (ints_new hn [y] (by simp) (fun m => r_one h1 h2)).c (by simp)
 unfold exL at hS1 HS2
 clear hgE hgJ g0 g1 g2 hl1
 go_enter Tryz.func31, Tryz.ntmps31
 go_upto_region 9 with (first
  | (go_at_call 51; refine hN.mono ?_; rintro e w1 ⟨rfl, rfl⟩)
  | (go_at_call 53; have _q := HX1; refine (HS2.out _ HX1.out).mono ?_; rintro e w3 ⟨rfl, HX2⟩)
  | (go_at_call 53; refine hS1.mono ?_; rintro e w2 ⟨rfl, HX1⟩)
  | (go_at_call 33; have _q := HX3; refine HX3.out.mono ?_; rintro e w5 ⟨ma, mc, rfl, HX4⟩)
  | (go_at_call 33; refine (HT3.out _ HX2.out).mono ?_; rintro e w4 ⟨la, lc, rfl, HX3⟩))
 go_wp2_with (first
  | (go_at_call 36; have _q := hb6; go_loud (refine (sameInts_any _ _ [2] [2] _ (((HX4.out.2.1.below ((Below.refl _ _).alloc (Nat.le_refl _) _)).below hb6).below ((Below.refl _ _).alloc (Nat.le_refl _) _)) (HI.out 2 (by omega) (by omega) _ _ rfl)).mono ?_; rintro e w7 ⟨rfl, hb7⟩))
  | (go_at_call 36; go_loud (refine (sameInts_any _ _ [1] [1] _ (HX4.out.1.below ((Below.refl _ _).alloc (Nat.le_refl _) _)) (HI.out 1 (by omega) (by omega) _ _ rfl)).mono ?_; rintro e w6 ⟨rfl, hb6⟩)))
 go_ret
 exact ⟨by simp, (HX4.out.2.2.trans ((below_one hb6).mono HX4.out.2.2.size)).trans ((below_one hb7).mono (Nat.le_trans HX4.out.2.2.size (below_one hb6).size))⟩
section
variable {T : List Tok} {fac part : PS -> Ex × PS} {fs : List ByteArray} {s s1 s2 : PS} {x y : Ex}
end
theorem wrap_tmod (n : Int) : wrapV n = wrapV (n.tmod 4294967296) /\ -4294967296 < n.tmod 4294967296 /\ n.tmod 4294967296 < 4294967296 := by
 unfold wrapV Int.bmod
 by_cases h : 0 <= n
 ·rw [Int.tmod_eq_emod_of_nonneg h]
  simp only
  refine ⟨?_, by omega, by omega⟩
  split <;> split <;> omega
 ·have e : n.tmod 4294967296 = -((-n) % 4294967296) := by
   have := Int.neg_tmod (-n) 4294967296
   rw [Int.neg_neg] at this
   rw [this, Int.tmod_eq_emod_of_nonneg (by omega)]
  rw [e]
  simp only
  refine ⟨?_, by omega, by omega⟩
  split <;> split <;> omega
theorem wrap_near {r : Int} (h1 : -2147483648 <= r) (h2 : r <= 2147483647) : wrapV r = r := by
 unfold wrapV Int.bmod; simp only; split <;> omega
theorem wrap_up {r : Int} (h1 : -4294967296 < r) (h2 : r < -2147483648) : wrapV r = r + 4294967296 := by
 unfold wrapV Int.bmod; simp only; split <;> omega
theorem wrap_down {r : Int} (h1 : 2147483647 < r) (h2 : r < 4294967296) : wrapV r = r - 4294967296 := by
 unfold wrapV Int.bmod; simp only; split <;> omega
theorem wrap_val (n : Int) (w : World) :
  Calls Tryz.prog 24 #[.int .i64 n] w fun e w' => e = .returned (.int .i64 (wrapV n)) /\ w' = w := by
 obtain ⟨hw, hr1, hr2⟩ := wrap_tmod n
 obtain ⟨r, hr⟩ : ∃ r : Int, n.tmod 4294967296 = r := ⟨_, rfl⟩
 rw [hr] at hw hr1 hr2
 have HW : Hid (wrapV n = wrapV r) := hw
 clear hw
 by_cases hn : r < 0
 ·by_cases hb : r + 4294967296 > 2147483647
  ·go_enter Tryz.func24, Tryz.ntmps24
   go_wp2
   go_ret
   exact ⟨ret_int (by rw [HW.out, wrap_near (by omega) (by omega)]), rfl⟩
  ·go_enter Tryz.func24, Tryz.ntmps24
   go_wp2
   go_ret
   exact ⟨ret_int (by rw [HW.out, wrap_up (by omega) (by omega)]), rfl⟩
 ·by_cases hb : r > 2147483647
  ·go_enter Tryz.func24, Tryz.ntmps24
   go_wp2
   go_ret
   exact ⟨ret_int (by rw [HW.out, wrap_down (by omega) (by omega)]), rfl⟩
  ·go_enter Tryz.func24, Tryz.ntmps24
   go_wp2
   go_ret
   exact ⟨ret_int (by rw [HW.out, wrap_near (by omega) (by omega)]), rfl⟩
end Go.Proofs.YtklobognaldjpaaGreat
