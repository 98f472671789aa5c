/- What package lecternkeep does: taken. What package lecternkeep does: room. Plain: all jobs of a room come to their end. -/
import Derived.Test.YtklobognaldjpaaGreatCSm1
import Derived.Test.YtklobognaldjpaaGreatCKp3
set_option maxRecDepth 1000000
set_option maxHeartbeats 4000000
namespace Go.Proofs.YtklobognaldjpaaGreat
open Go.RowKit
def txtOf (zs : List Int) : List UInt8 := joinG [32] (lesW (lesKs zs))
theorem wrap_take {inp : List Int} {j : Nat} (h : j < inp.length) : (inp.take (j + 1)).map wrapV = (inp.take j).map wrapV ++ [wrapV (inp.getD j 0)] := by
 rw [List.take_add_one, List.getElem?_eq_getElem h, List.map_append]
 simp [List.getD, h]
theorem taken_any (vr vi : Value) (zs inp : List Int) (fuel : Int) (w : World) (hin : IntsAt w vr zs) (hip : IntsAt w vi inp) (hil : inp.length <= 17592186044416) (h1 : -9223372036854775808 <= fuel) (h2 : fuel <= 9223372036854775807) :
  Calls Tryz.prog 34 #[.agg #[vr, .int .i64 fuel, vi]] w fun e w' => ∃ oa oc, e = .returned (.tuple #[.string ⟨(txtOf zs).toArray⟩, .slice oa inp.length oc, .int .i64 (pickI fuel 300)]) /\ w'.ownsRow w.heap.size 3 1 (.slice oa inp.length oc) inp.length ((inp.map wrapV).map (.int .i64)) /\ Below w.heap.size w w' := by
 obtain ⟨i0, hi, hz0, hz1, hz2⟩ := info_parts Tryz.infoIntC
 obtain ⟨hks, hlen⟩ := lesKs_ok zs
 have hpos : 0 < (lesW (lesKs zs)).length := by unfold lesW; simp [hdrW]
 have hne : lesW (lesKs zs) ≠ [] := List.length_pos_iff.1 hpos
 have hcount := join_count (lesW (lesKs zs))
 have HLs : Hid (∀ W, Below w.heap.size w W -> Calls Tryz.prog 22 #[vr] W fun e w' => Below W.heap.size W w' /\ ∃ lb lc, e = .returned (.slice (some ⟨lb, 0, none⟩) (lesW (lesKs zs)).length lc) /\ Hid (Calls Tryz.prog 25 #[.slice (some ⟨lb, 0, none⟩) (lesW (lesKs zs)).length lc, .string ⟨#[32]⟩] w' fun e w2 => e = .returned (.string ⟨(txtOf zs).toArray⟩) /\ w2 = w')) := fun W hb => by
  refine (lesson_any vr zs W (hin.under hb)).mono ?_
  rintro e w' ⟨hb2, vl, rfl, hown⟩
  obtain ⟨lb, lc, rfl, hlb, _, hWA⟩ := words_at hown hne
  exact ⟨hb2, lb, lc, rfl, joined_any lb lc _ [32] w' (by omega) (by have : (joinG [32] (lesW (lesKs zs))).length <= 600 := hlen; omega) hWA⟩
 have hP := fun W => pick_any fuel 300 W h1 h2 (by omega) (by omega)
 have HP : Hid (∀ W, Below w.heap.size w W -> IntsAt W vi inp) := fun W h => hip.under h
 obtain ⟨ia, ic, rfl, _⟩ := hip
 obtain ⟨va, vc, rfl, _⟩ := hin
 clear hks hlen hpos hne hcount
 generalize (lesW (lesKs zs)).length = nl at *
 go_enter Tryz.func34, Tryz.ntmps34
 go_wp2
 go_loopw [5, 6] (fun s t wr => ∃ j : Nat, t = .int .i64 j /\ j <= inp.length /\ wr.ownsRow (w.alloc (.cells #[.slice va zs.length vc, .int .i64 fuel, .slice ia inp.length ic] 69)).heap.size 3 1 s j (((inp.take j).map wrapV).map (.int .i64)) /\ Below (w.alloc (.cells #[.slice va zs.length vc, .int .i64 fuel, .slice ia inp.length ic] 69)).heap.size (w.alloc (.cells #[.slice va zs.length vc, .int .i64 fuel, .slice ia inp.length ic] 69)) wr) (fun _ t _ => inp.length - (intOf t).toNat)
 case atStart => exact ⟨0, rfl, Nat.zero_le _, World.ownsRow_nil _ _ _ _, Below.refl _ _⟩
 case round =>
  obtain ⟨j, rfl, hj, hown, hB⟩ := hrel
  obtain ⟨t1, t2, hB0⟩ := one_cells hB
  have r0 := t1 0 _ rfl
  have r1 := t1 1 _ rfl
  have r2 := t1 2 _ rfl
  clear t1 t2
  obtain ⟨sa, sc, hsv⟩ := owned_slice hown
  subst hsv
  by_cases hlt : j < inp.length
  ·have hji : (j : Int) < (inp.length : Int) := by omega
   obtain ⟨g2, gc2, ge, gm, gr, gcs⟩ := HP.out wr hB0
   rcases gcs with h0 | ⟨gb, goff, hge, hgb, gcs⟩
   ·rw [h0] at hlt; simp at hlt
   subst hge
   injection ge with ge1 _ ge2
   subst ge1
   subst ge2
   have hgc := gcs j hlt
   have hwt := wrap_take hlt
   have HW : Hid ((inp.take (j + 1)).map wrapV = (inp.take j).map wrapV ++ [wrapV (inp.getD j 0)]) := hwt
   clear gcs gr hwt
   unfold maxLen at gm
   generalize inp.getD j 0 = y at *
   have HB1 : Hid _ := hB
   go_wp2_with (first
    | (go_at_call 24; refine (wrap_val _ _).mono ?_; rintro e wp ⟨rfl, h9⟩; cases h9)
    | (at_builtin; go_loud (refine wpList_append_own2 rfl _ _ 23 rfl (w.alloc (.cells #[.slice va zs.length vc, .int .i64 fuel, .slice (some ⟨gb, goff, none⟩) inp.length ic] 69)).heap.size 3 i0 _ 1 8 Tryz.underlying23 hi hz0 hz1 hz2 rfl (by decide) _ _ _ rfl (hown.alloc _) ⟨wr.heap.size, 0, none⟩ 1 1 [.int .i64 (wrapV y)] rfl (by simp) (cell_one_new _ _ _) (by intro u hu; simp at hu; subst hu; rfl) (by unfold maxLen; omega) (by omega) (Nat.le_trans hB.size (by simp)) ?_); go_loud (intro v5 w5 hown5 hg5 hn5; have HN5 : Hid (w5.ownsRow (w.alloc (.cells #[.slice va zs.length vc, .int .i64 fuel, .slice (some ⟨gb, goff, none⟩) inp.length ic] 69)).heap.size 3 1 v5 (j + 1) (((inp.take (j + 1)).map wrapV).map (.int .i64)) /\ Below (w.alloc (.cells #[.slice va zs.length vc, .int .i64 fuel, .slice (some ⟨gb, goff, none⟩) inp.length ic] 69)).heap.size (w.alloc (.cells #[.slice va zs.length vc, .int .i64 fuel, .slice (some ⟨gb, goff, none⟩) inp.length ic] 69)) w5) := ⟨(by rw [HW.out, List.map_append]; exact hown5), (hB.alloc hB.size _).trans ⟨hg5.os, hg5.tape, hg5.output, hg5.size, fun k hk => hg5.block k (by have := hB.size; simp at this hk ⊢; omega) (fun e => by have := (hown.lt k e.symm).1; omega)⟩⟩; obtain ⟨oa, oc, hvv⟩ := owned_slice HN5.out.1; subst hvv)))
   go_roundw
   case rel => exact ⟨j + 1, by go_num, by omega, HN5.out.1, HN5.out.2⟩
   case measure => simp [intOf]; omega
  ·have hji : ¬ (j : Int) < (inp.length : Int) := by omega
   have hjl : j = inp.length := by omega
   subst hjl
   rw [List.take_length] at hown
   have hwl : w.heap.size < wr.heap.size := by have := hB.size; simp at this; omega
   have HF : Hid (∀ w2, Below wr.heap.size wr w2 -> w2.ownsRow w.heap.size 3 1 (.slice sa inp.length sc) inp.length ((inp.map wrapV).map (.int .i64)) /\ Below w.heap.size w w2) := fun w2 hb => ⟨row_base (owns_below hown hb) (by simp), hB0.trans (hb.mono hB0.size)⟩
   have HLs2 := HLs.out wr.drew (hB0.trans ((Below.refl _ _).drew.mono hB0.size))
   clear hown hB HLs HP
   go_wp2
   go_region_with (first
    | (go_at_call 22; go_loud (refine HLs2.mono ?_; rintro e w2 ⟨hb2, lb, lc, rfl, HJ⟩; have q1 : w2.cell? ⟨w.heap.size, 1, none⟩ = some (.int .i64 fuel) := (by rw [hb2.cell (p := ⟨w.heap.size, 1, none⟩) hwl]; exact r1)))
    | (go_at_call 25; go_loud (refine HJ.out.mono ?_; rintro e w3 ⟨rfl, h9⟩; cases h9))
    | (go_at_call 23; refine (hP _).mono ?_; rintro e w4 ⟨rfl, h9⟩; cases h9))
   all_goals go_wp2
   all_goals go_ret3
   all_goals exact ⟨sa, sc, rfl, HF.out _ (((Below.refl _ _).drew).trans hb2)⟩
structure Pup where
 raw : List Int
 fuel : Int
 inp : List Int
def Pup.f (p : Pup) : Nat := (pickI p.fuel 300).toNat
def Pup.job (p : Pup) (num : Nat) : PJ := jobP (txtOf p.raw) (p.inp.map wrapV) p.f num
theorem pup_f (p : Pup) : pickI p.fuel 300 = (p.f : Nat) /\ p.f < 300 := by
 have h := pickI_lt p.fuel (n := 300) (by omega)
 unfold Pup.f
 have h2 : 0 <= pickI p.fuel 300 := by have := h.2.1; simpa using this
 exact ⟨by omega, h.1⟩
theorem pup_check (p : Pup) : checkP (txtOf p.raw) = (0, 0) := by
 obtain ⟨h1, h2⟩ := lesKs_ok p.raw
 exact check_whole h1 h2
theorem ok_wrap (inp : List Int) : okIn (inp.map wrapV) = true := by
 unfold okIn
 rw [List.all_eq_true]
 intro x hx
 obtain ⟨y, _, rfl⟩ := List.mem_map.1 hx
 have : -2147483648 <= wrapV y /\ wrapV y <= 2147483647 := by unfold wrapV Int.bmod; simp only; split <;> omega
 simpa using this
def Pup.out (p : Pup) : Nat × List Int × Nat := outcome (treeOf (txtOf p.raw)) (p.inp.map wrapV) p.f
theorem pup_good (p : Pup) : ∃ mE, (∀ num, GoodJ (p.job num) mE) /\ mE.over = some p.out.1 /\ mE.out = p.out.2.1 /\ mE.used = p.out.2.2 := by
 obtain ⟨mE, h, h1, h2, h3⟩ := start_good (l := txtOf p.raw) (zs := p.inp.map wrapV) (fuel := p.f) (num := 0) (by rw [pup_check]) (by have := (pup_f p).2; omega)
 exact ⟨mE, fun num => ⟨h.rch, h.fin, h.ca, h.us, h.fu, h.wl, h.wk⟩, h1, h2, h3⟩
noncomputable def Pup.endM (p : Pup) : MS := Classical.choose (pup_good p)
theorem endM_ok (p : Pup) : (∀ num, GoodJ (p.job num) p.endM) /\ p.endM.over = some p.out.1 /\ p.endM.out = p.out.2.1 /\ p.endM.used = p.out.2.2 := Classical.choose_spec (pup_good p)
noncomputable def endsOf (ps : List Pup) (i : Nat) : MS := match ps[i]? with
 | some p => p.endM
 | none => m0 ([], 0, 0) []
def pushAll (a : PRm) : List Pup -> PRm
 | [] => a
 | p :: r => pushAll (pushP a (p.job (a.js.length + 1))) r
theorem pushAll_snoc (p : Pup) : ∀ (l : List Pup) (a : PRm), pushAll a (l ++ [p]) = pushP (pushAll a l) (p.job ((pushAll a l).js.length + 1))
 | [], a => rfl
 | x :: l, a => by rw [List.cons_append, pushAll, pushAll, pushAll_snoc p l]
theorem pushAll_len : ∀ (l : List Pup) (a : PRm), (pushAll a l).js.length = a.js.length + l.length
 | [], a => rfl
 | x :: l, a => by rw [pushAll, pushAll_len l]; unfold pushP; simp; omega
theorem pushAll_hp : ∀ (l : List Pup) (a : PRm), (pushAll a l).hp.length = a.hp.length + l.length
 | [], a => rfl
 | x :: l, a => by rw [pushAll, pushAll_hp l]; unfold pushP; simp only [upL_len, List.length_append, List.length_cons, List.length_nil]; omega
theorem pushAll_good (ps : List Pup) : ∀ j, j <= ps.length -> j <= 5 -> PG (endsOf ps) (pushAll ⟨[], []⟩ (ps.take j))
 | 0, _, _ => by
  rw [List.take_zero]
  exact ⟨(fun i hi => by cases hi), (by simp [pushAll]), (fun i P hi => by simp [pushAll] at hi), (fun i P hi => by simp [pushAll] at hi), (by simp [pushAll]), (by simp [pushAll])⟩
 | j + 1, h1, h2 => by
  have ih := pushAll_good ps j (by omega) (by omega)
  have hl : (pushAll ⟨[], []⟩ (ps.take j)).js.length = j := by rw [pushAll_len, List.length_take]; simp; omega
  have hh : (pushAll ⟨[], []⟩ (ps.take j)).hp.length = j := by rw [pushAll_hp, List.length_take]; simp; omega
  rw [List.take_add_one, List.getElem?_eq_getElem (by omega)]
  show PG _ (pushAll _ (ps.take j ++ [ps[j]]))
  rw [pushAll_snoc]
  refine push_good ih (by omega) (by omega) rfl ?_
  rw [hl]
  have : endsOf ps j = (ps[j]).endM := by unfold endsOf; rw [List.getElem?_eq_getElem (by omega)]
  rw [this]
  exact (endM_ok _).1 _
def PupAt (w : World) (v : Value) (ps : List Pup) : Prop :=
 ∃ a cap, v = .slice a ps.length cap /\ ps.length <= 17592186044416 /\
  (ps = [] ∨ ∃ b off, a = some ⟨b, off, none⟩ /\ b < w.heap.size /\ ∀ i p, ps[i]? = some p -> (-9223372036854775808 <= p.fuel /\ p.fuel <= 9223372036854775807) /\ p.inp.length <= 17592186044416 /\
    ∃ vr vi, w.cell? ⟨b, off + i * 3, none⟩ = some vr /\ w.cell? ⟨b, off + i * 3 + 1, none⟩ = some (.int .i64 p.fuel) /\ w.cell? ⟨b, off + i * 3 + 2, none⟩ = some vi /\ IntsAt w vr p.raw /\ IntsAt w vi p.inp)
theorem row_ints {w : World} {base : Nat} {a : Option Addr} {n cap : Nat} {xs : List Int} (h : w.ownsRow base 3 1 (.slice a n cap) n (xs.map (.int .i64))) (hn : xs.length = n) (hl : n <= maxLen) (hok : okIn xs = true) : IntsAt w (.slice a n cap) xs := by
 subst hn
 refine ⟨a, cap, rfl, hl, fun z hz => ?_, ?_⟩
 ·unfold okIn at hok
  have := List.all_eq_true.1 hok z hz
  simp at this
  omega
 ·by_cases h0 : xs = []
  ·exact .inl h0
  ·obtain ⟨tb, cap2, e, hb, hlt⟩ := h.form (List.length_pos_iff.2 h0)
   cases e
   refine .inr ⟨tb, 0, rfl, hlt, fun i hi => ?_⟩
   have := h.cellAt i (by simpa using hi)
   rw [Nat.zero_add, this, List.getElem?_map, List.getElem?_eq_getElem hi]
   simp [List.getD, hi]
def slOf (slice : Int) : Nat := 1 + (pickI slice 50).toNat
theorem room_any (v : Value) (ps : List Pup) (slice : Int) (w : World) (h : PupAt w v ps) (h1 : -9223372036854775808 <= slice) (h2 : slice <= 9223372036854775807) :
  Calls Tryz.prog 32 #[v, .int .i64 slice] w fun e w' => ∃ rb Js vj vv, e = .returned (.pointer (some ⟨rb, 0, none⟩)) /\ RRep w' rb (slOf slice) vj vv Js (pushAll ⟨[], []⟩ (ps.take 5)) /\ (∀ b, RFoot rb vj vv Js b -> w.heap.size <= b) /\ Below w.heap.size w w' := by
 obtain ⟨q, hq, hql⟩ : ∃ q : Nat, pickI slice 50 = q /\ q < 50 := ⟨(pickI slice 50).toNat, by have := (pickI_lt slice (n := 50) (by omega)).2.1; simp at this; omega, (pickI_lt slice (n := 50) (by omega)).1⟩
 have hsl : slOf slice = 1 + q := by unfold slOf; rw [hq]; simp
 rw [hsl]
 have hP := fun W => pick_any slice 50 W h1 h2 (by omega) (by omega)
 rw [hq] at hP
 have hN : ∀ W, Calls Tryz.prog 51 #[.int .i64 (1 + (q : Int))] W fun e w' => e = .returned (.tuple #[.pointer (some ⟨W.heap.size, 0, none⟩), .int .i64 0]) /\ w' = W.alloc (.cells #[.int .i64 ((1 + q : Nat) : Int), .slice none 0 0, .slice none 0 0] 109) := fun W => by
  have := newRoom_any (n := 1 + q) (by omega) (by omega) W
  rw [show (((1 + q : Nat)) : Int) = 1 + (q : Int) by omega] at this ⊢
  exact this
 obtain ⟨a, cap, rfl, hpl, hcs⟩ := h
 clear hq hsl
 go_enter Tryz.func32, Tryz.ntmps32
 go_wp2_with (first
  | (go_at_call 23; refine (hP _).mono ?_; rintro e wp ⟨rfl, h9⟩; cases h9)
  | (go_at_call 51; refine (hN _).mono ?_; rintro e w1 ⟨rfl, h9⟩; cases h9))
 go_loopw [7] (fun t wr => ∃ (j : Nat) (Js : List JM) (vj vv : Value), t = .int .i64 j /\ j <= ps.length /\ j <= 5 /\ RRep wr w.heap.size (1 + q) vj vv Js (pushAll ⟨[], []⟩ (ps.take j)) /\ (∀ b, RFoot w.heap.size vj vv Js b -> w.heap.size <= b) /\ Below w.heap.size w wr) (fun t _ => 5 - (intOf t).toNat)
 case atStart =>
  refine ⟨0, [], .slice none 0 0, .slice none 0 0, rfl, Nat.zero_le _, Nat.zero_le _, ⟨room_new w (1 + q), rfl⟩, fun b hb => ?_, (Below.refl _ _).alloc (Nat.le_refl _) _⟩
  rcases hb with e | e | e | ⟨J, hJ, _⟩
  ·omega
  ·simp [Value.ownBlock] at e
  ·simp [Value.ownBlock] at e
  ·cases hJ
 case round =>
  obtain ⟨j, Js, vj, vv, rfl, hj1, hj2, hR, hfo, hB⟩ := hrel
  by_cases hlt : j < ps.length
  ·have hji : (j : Int) < (ps.length : Int) := by omega
   by_cases h5 : j < 5
   ·have h5i : (j : Int) < 5 := by omega
    rcases hcs with h0 | ⟨pb, off, rfl, hpb, hcs⟩
    ·rw [h0] at hlt; simp at hlt
    obtain ⟨⟨f1, f2⟩, hil, vr, vi, d0, d1, d2, i1, i2⟩ := hcs j ps[j] (List.getElem?_eq_getElem hlt)
    have k0 : wr.cell? ⟨pb, off + j * 3, none⟩ = some vr := by rw [hB.cell (p := ⟨pb, off + j * 3, none⟩) hpb]; exact d0
    have k1 : wr.cell? ⟨pb, off + j * 3 + 1, none⟩ = some (.int .i64 (ps[j]).fuel) := by rw [hB.cell (p := ⟨pb, off + j * 3 + 1, none⟩) hpb]; exact d1
    have k2 : wr.cell? ⟨pb, off + j * 3 + 2, none⟩ = some vi := by rw [hB.cell (p := ⟨pb, off + j * 3 + 2, none⟩) hpb]; exact d2
    obtain ⟨pf1, pf2⟩ := pup_f ps[j]
    have hT := taken_any vr vi (ps[j]).raw (ps[j]).inp (ps[j]).fuel wr (i1.under hB) (i2.under hB) hil f1 f2
    rw [pf1] at hT
    have hlen : (pushAll ⟨[], []⟩ (ps.take j)).js.length = j := by rw [pushAll_len, List.length_take]; simp; omega
    have hg := pushAll_good ps j hj1 hj2
    have hnext : pushP (pushAll ⟨[], []⟩ (ps.take j)) ((ps[j]).job (j + 1)) = pushAll ⟨[], []⟩ (ps.take (j + 1)) := by
     rw [List.take_add_one, List.getElem?_eq_getElem hlt]
     show _ = pushAll _ (ps.take j ++ [ps[j]])
     rw [pushAll_snoc, hlen]
    have HS : Hid (∀ (w2 : World) (oa : Option Addr) (oc : Nat), w2.ownsRow wr.heap.size 3 1 (.slice oa (ps[j]).inp.length oc) (ps[j]).inp.length (((ps[j]).inp.map wrapV).map (.int .i64)) -> Below wr.heap.size wr w2 -> Calls Tryz.prog 53 #[.pointer (some ⟨w.heap.size, 0, none⟩), .string ⟨(txtOf (ps[j]).raw).toArray⟩, .slice oa (ps[j]).inp.length oc, .int .i64 ((ps[j]).f : Nat)] w2 fun e w3 => e = .returned (.tuple #[.int .i64 ((j : Int) + 1), .int .i64 0, .int .i64 0]) /\ Hid (∃ Js' vj' vv', RRep w3 w.heap.size (1 + q) vj' vv' Js' (pushAll ⟨[], []⟩ (ps.take (j + 1))) /\ (∀ b, RFoot w.heap.size vj' vv' Js' b -> w.heap.size <= b) /\ Below w.heap.size w w3)) := fun w2 oa oc ho hb => by
     have hi := row_ints ho (by simp) (by unfold maxLen; omega) (ok_wrap _)
     have hs := submit_rep (hR.below hb) hg (by omega) hi (by simp; omega) (by rw [pup_check]) (by omega) (ok_wrap _) (l := txtOf (ps[j]).raw) (fuel := (ps[j]).f)
     rw [hlen] at hs
     refine hs.mono ?_
     rintro e w3 ⟨rfl, Js', vj', vv', r1, r2⟩
     have hb2 := hB.trans (hb.mono hB.size)
     refine ⟨rfl, Js', vj', vv', by rw [<- hnext]; exact r1, fun b hb3 => ?_, hb2.trans (below_of_rm r2 hfo hb2.size)⟩
     rcases r2.nw b hb3 with e | e
     ·exact hfo b e
     ·exact Nat.le_trans hb2.size e
    clear hcs d0 d1 d2 i1 i2 hR hfo hg hnext hlen pf1
    have hjb : j <= 5 := hj2
    go_wp2_with (first
     | (go_at_call 34; go_loud (refine hT.mono ?_; rintro e w2 ⟨oa, oc, rfl, ho2, hb2⟩; have HS2 := HS.out w2 oa oc ho2 hb2))
     | (go_at_call 53; go_loud (refine HS2.mono ?_; rintro e w3 ⟨rfl, HX⟩)))
    go_roundw
    case rel =>
     obtain ⟨Js', vj', vv', r1, r2, r3⟩ := HX.out
     exact ⟨j + 1, Js', vj', vv', by go_num, by omega, by omega, r1, r2, r3⟩
    case measure => simp [intOf]; omega
   ·have h5i : ¬ (j : Int) < 5 := by omega
    have HX : Hid _ := And.intro hR (And.intro hfo hB)
    have hj5 : j = 5 := by omega
    clear hR hfo hB hcs
    go_wp2
    go_ret
    subst hj5
    exact ⟨w.heap.size, rfl, Js, vj, vv, HX.out.1, HX.out.2.1, HX.out.2.2⟩
  ·have hji : ¬ (j : Int) < (ps.length : Int) := by omega
   have HX : Hid _ := And.intro hR (And.intro hfo hB)
   have hj5 : ps.take 5 = ps.take j := by rw [List.take_of_length_le (by omega), List.take_of_length_le (by omega)]
   have HJ : Hid (ps.take 5 = ps.take j) := hj5
   clear hR hfo hB hcs hj5
   go_wp2
   go_ret
   exact ⟨w.heap.size, rfl, Js, vj, vv, by rw [HJ.out]; exact HX.out.1, HX.out.2.1, HX.out.2.2⟩
def wt (P : PJ) : Nat := if P.done then 0 else P.fuel + 1 - P.m.used
structure PN (N : Nat) (b : PRm) (l : List Nat) : Prop where
 len : b.js.length = N
 num : ∀ i P, b.js[i]? = some P -> P.num = i + 1 /\ P.done = P.m.over.isSome /\ P.fuel <= 300
 cnt : ∀ i P, b.js[i]? = some P -> l.count (i + 1) = if P.done then 1 else 0
 rng : ∀ x ∈ l, 1 <= x /\ x <= N
theorem rd_pn {N sl : Nat} {a b : PRm} {l : List Nat} {o : Option Nat} (hn : PN N a l) (h : Rd sl a b o) : PN N b (l ++ o.toList) := by
 cases h with
 | none js => rw [Option.toList_none, List.append_nil]; exact hn
 | @turn js i n t P m' c hi hd hT =>
  have hil := (List.getElem?_eq_some_iff.1 hi).1
  have hN := hn.num i P hi
  have hlen : js.length = N := hn.len
  refine ⟨by show (js.set i (P.after m')).length = N; rw [List.length_set]; exact hlen, fun j Q hj => ?_, fun j Q hj => ?_, fun x hx => ?_⟩
  ·have hj' : (js.set i (P.after m'))[j]? = some Q := hj
   rw [set_at hil] at hj'
   by_cases e : i = j
   ·subst e
    rw [if_pos rfl] at hj'
    cases hj'
    exact ⟨hN.1, rfl, hN.2.2⟩
   ·rw [if_neg e] at hj'; exact hn.num j Q hj'
  ·have hj' : (js.set i (P.after m'))[j]? = some Q := hj
   rw [set_at hil] at hj'
   rw [List.count_append]
   by_cases e : i = j
   ·subst e
    rw [if_pos rfl] at hj'
    cases hj'
    have h0 := hn.cnt i P hi
    rw [hd, if_neg (by simp)] at h0
    rw [h0, hN.1]
    show 0 + _ = if m'.over.isSome then 1 else 0
    cases m'.over.isSome <;> simp
   ·rw [if_neg e] at hj'
    rw [hn.cnt j Q hj', hN.1]
    have : List.count (j + 1) (if m'.over.isSome then some (i + 1) else none).toList = 0 := by
     cases m'.over.isSome
     ·simp
     ·simp [List.count_cons]; omega
    rw [this]; omega
  ·rcases List.mem_append.1 hx with hx | hx
   ·exact hn.rng x hx
   ·rw [hN.1] at hx
    cases ho : m'.over.isSome with
    | true => rw [ho] at hx; simp at hx; omega
    | false => rw [ho] at hx; simp at hx
theorem rds_pn {N sl : Nat} {k : Nat} {a b : PRm} {l m : List Nat} (h : Rds sl k a b l) : PN N a m -> PN N b (m ++ l) := by
 induction h with
 | zero a => intro hn; rw [List.append_nil]; exact hn
 | @succ k a b c l o h1 h2 ih => intro hn; rw [<- List.append_assoc]; exact rd_pn (ih hn) h2
theorem pushAll_js : ∀ (l : List Pup) (a : PRm) (i : Nat) (P : PJ), (pushAll a l).js[i]? = some P -> a.js[i]? = some P ∨ ∃ p, a.js.length <= i /\ l[i - a.js.length]? = some p /\ P = p.job (i + 1)
 | [], a, i, P, h => .inl h
 | x :: l, a, i, P, h => by
  rw [pushAll] at h
  have hlen : (pushP a (x.job (a.js.length + 1))).js.length = a.js.length + 1 := by unfold pushP; simp
  rcases pushAll_js l _ i P h with h1 | ⟨p, h1, h2, h3⟩
  ·have h1' : (a.js ++ [x.job (a.js.length + 1)])[i]? = some P := h1
   rw [List.getElem?_append] at h1'
   by_cases e : i < a.js.length
   ·rw [if_pos e] at h1'; exact .inl h1'
   ·rw [if_neg e] at h1'
    have e2 : i - a.js.length = 0 := by
     have := (List.getElem?_eq_some_iff.1 h1').1
     simpa using this
    rw [e2] at h1'
    have e3 : i = a.js.length := by omega
    refine .inr ⟨x, by omega, by rw [e2]; rfl, ?_⟩
    have : x.job (a.js.length + 1) = P := by simpa using h1'
    rw [<- this, e3]
  ·rw [hlen] at h1 h2
   refine .inr ⟨p, by omega, ?_, h3⟩
   rw [show i - a.js.length = (i - (a.js.length + 1)) + 1 by omega, List.getElem?_cons_succ]
   exact h2
theorem pushAll_pn (ps : List Pup) : PN ps.length (pushAll ⟨[], []⟩ ps) [] := by
 refine ⟨by rw [pushAll_len]; simp, fun i P hi => ?_, fun i P hi => ?_, fun x hx => by cases hx⟩
 ·rcases pushAll_js ps _ i P hi with h | ⟨p, _, _, rfl⟩
  ·simp at h
  ·refine ⟨rfl, rfl, ?_⟩
   have := (pup_f p).2
   show p.f <= 300
   omega
 ·rcases pushAll_js ps _ i P hi with h | ⟨p, _, _, rfl⟩
  ·simp at h
  ·rfl
end Go.Proofs.YtklobognaldjpaaGreat
