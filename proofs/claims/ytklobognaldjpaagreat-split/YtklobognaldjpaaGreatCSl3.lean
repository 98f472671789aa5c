/- The law Split: its contract. For all pupils, every slice, all numbers of rounds and every job that is dropped, lecternkeep.Split returns true: rounds are rounds, in however many calls; a job that is d -/
import Derived.Test.YtklobognaldjpaaGreatCSl1
import Derived.Test.YtklobognaldjpaaGreatCRp8
set_option maxRecDepth 1000000
set_option maxHeartbeats 8000000
namespace Go.Proofs.YtklobognaldjpaaGreat
open Go.RowKit
theorem two_start {w w1 w2 : World} {rb tb sl : Nat} {vj v tj u : Value} {Js Ts : List JM} {a c : PRm} (hb1 : Below w.heap.size w w1) (hr : RRep w1 rb sl vj v Js a) (hf : ∀ b, RFoot rb vj v Js b -> w.heap.size <= b) (hb2 : Below w1.heap.size w1 w2) (ht : RRep w2 tb sl tj u Ts c) (hft : ∀ b, RFoot tb tj u Ts b -> w1.heap.size <= b) : TwoAt w w2 rb tb sl vj v tj u Js Ts a c :=
 ⟨hr.below hb2, ht, fun x hx => ⟨hf x hx, fun e => by have := hft x e; have := hr.room.footlt hx; omega⟩, fun x hx => Nat.le_trans hb1.size (hft x hx), hb1.trans (hb2.mono hb1.size)⟩
theorem pick_nat (c : Int) {n : Nat} (hn : 0 < n) : ∃ q : Nat, pickI c n = q /\ q < n :=
 ⟨(pickI c n).toNat, by have := (pickI_lt c hn).2.1; omega, (pickI_lt c hn).1⟩
theorem rows_same {W : World} {lo lo2 : Nat} {va vb : Value} {xs ys : List Nat} {n : Nat} {zs : List Value} (h1 : W.ownsRow lo 3 1 va n zs) (hz : zs = intsN xs) (hn : n = xs.length) (h2 : W.ownsRow lo2 3 1 vb ys.length (intsN ys)) (he : xs = ys) (hl : ys.length <= 1000000) :
  Calls Tryz.prog 36 #[va, vb] W fun e w' => e = .returned (.bool true) /\ Below W.heap.size W w' := by
 subst hz hn he
 have em : intsN xs = (xs.map fun (x : Nat) => (x : Int)).map (.int .i64) := by unfold intsN; rw [List.map_map]; rfl
 rw [em] at h1 h2
 obtain ⟨a, ca, rfl⟩ := owned_any h1
 obtain ⟨b, cb, rfl⟩ := owned_any h2
 refine (sameInts_any _ _ _ _ W (row_intsC h1 (by simp) hl) (row_intsC h2 (by simp) hl)).mono ?_
 rintro e w' ⟨rfl, hb⟩
 exact ⟨by simp, hb⟩
theorem same_told {W : World} {oa ob : Option Addr} {ca cb lo1 lo2 : Nat} {P : PJ} (hl : P.m.out.length <= 60) (h1 : W.ownsRow lo1 3 1 (.slice oa P.m.out.length ca) P.m.out.length (P.m.out.map (.int .i64))) (h2 : W.ownsRow lo2 3 1 (.slice ob P.m.out.length cb) P.m.out.length (P.m.out.map (.int .i64))) :
  Calls Tryz.prog 26 #[.agg #[.int .i64 ((P.m.over.getD 0 : Nat) : Int), .slice oa P.m.out.length ca, .int .i64 (P.m.used : Nat)], .agg #[.int .i64 ((P.m.over.getD 0 : Nat) : Int), .slice ob P.m.out.length cb, .int .i64 (P.m.used : Nat)]] W fun e w' => e = .returned (.bool true) /\ Below W.heap.size W w' :=
 same_eq (o := (P.m.over.getD 0, P.m.out, P.m.used)) ⟨_, rfl, row_intsC h1 rfl (by omega)⟩ ⟨_, rfl, row_intsC h2 rfl (by omega)⟩
theorem Split_any (v : Value) (ps : List Pup) (slice first second drop : Int) (w : World) (h : PupAt w v ps) (h1 : -9223372036854775808 <= slice) (h2 : slice <= 9223372036854775807) (h3 : -9223372036854775808 <= first) (h4 : first <= 9223372036854775807) (h5 : -9223372036854775808 <= second) (h6 : second <= 9223372036854775807) (h7 : -9223372036854775808 <= drop) (h8 : drop <= 9223372036854775807) :
  Calls Tryz.prog 12 #[v, .int .i64 slice, .int .i64 first, .int .i64 second, .int .i64 drop] w fun e w' => e = .returned (.bool true) /\ Below w.heap.size w w' := by
 obtain ⟨i0, hi, hz0, hz1, hz2⟩ := info_parts Tryz.infoIntC
 have HRm : Hid (∀ W, Below w.heap.size w W -> PupAt W v ps) := fun W hb => h.under hb
 have hR := fun W (hb : Below w.heap.size w W) => room_any v ps slice W (HRm.out W hb) h1 h2
 have hsl : slOf slice <= 1000 := by
  have h3 : (pickI slice 50).toNat < 50 := (pickI_lt slice (n := 50) (by omega)).1
  unfold slOf
  omega
 obtain ⟨A, hA, hA1⟩ : ∃ q : Nat, pickI first 100 = q /\ q < 100 := pick_nat first (n := 100) (by omega)
 obtain ⟨B, hB, hB1⟩ : ∃ q : Nat, pickI second 100 = q /\ q < 100 := pick_nat second (n := 100) (by omega)
 have hPa := fun W => pick_any first 100 W h3 h4 (by omega) (by omega)
 have hPb := fun W => pick_any second 100 W h5 h6 (by omega) (by omega)
 rw [hA] at hPa
 rw [hB] at hPb
 have hPd := fun (n : Nat) (hn : 0 < n) (hn2 : n <= 5) W => pick_any drop (n : Int) W h7 h8 (by omega) (by omega)
 obtain ⟨a, cap, rfl, hpl, _⟩ := h
 generalize slOf slice = sl at *
 have HG0 : Hid (PG (endsOf ps) (pushAll ⟨[], []⟩ (ps.take 5)) /\ PN (min ps.length 5) (pushAll ⟨[], []⟩ (ps.take 5)) []) := ⟨pushAll_good5 ps, (by have := pushAll_pn (ps.take 5); rwa [List.length_take, Nat.min_comm] at this)⟩
 clear hA hB
 go_enter Tryz.func12, Tryz.ntmps12
 go_upto_region 3 with (first
  | (go_at_call 31; refine (turning_any _).mono ?_; rintro e wa ⟨rfl, hba⟩)
  | (go_at_call 32; refine (hR _ hba).mono ?_; rintro e w1 ⟨rb, Js, vj, vv, rfl, hrep, hfoot, hb1⟩; have hB0 : Below w.heap.size w w1 := hba.trans (hb1.mono hba.size)))
 go_upto_region 7 with (go_at_call 32; refine (hR _ hB0).mono ?_; rintro e w2 ⟨tb, Ts, tj, uu, rfl, hrep2, hfoot2, hb2⟩)
 have emin : min (ps.length : Int) 5 = ((min ps.length 5 : Nat) : Int) := by omega
 rw [emin]
 obtain ⟨N, hN, hN5⟩ : ∃ N, min ps.length 5 = N /\ N <= 5 := ⟨_, rfl, by omega⟩
 rw [hN]
 rw [hN] at HG0
 have HT0 : Hid (TwoAt w w2 rb tb sl vj vv tj uu Js Ts (pushAll ⟨[], []⟩ (ps.take 5)) (pushAll ⟨[], []⟩ (ps.take 5))) := two_start hB0 hrep (fun b hb => Nat.le_trans hba.size (hfoot b hb)) hb2 hrep2 hfoot2
 have HW2 : Hid (w.heap.size <= w2.heap.size) := HT0.out.bel.size
 clear hrep hfoot hb1 hba hB0 hrep2 hfoot2 hb2 hR HRm
 generalize pushAll ⟨[], []⟩ (ps.take 5) = a0 at *
 have hT1 := HT0.out.tickR HG0.out.1 hsl (k := A) (by omega)
 go_upto_region 8 with (go_at_call 23; refine (hPa _).mono ?_; rintro e wx ⟨rfl, h9⟩; cases h9)
 go_upto_region 9 with (go_at_call 23; refine (hPb _).mono ?_; rintro e wx ⟨rfl, h9⟩; cases h9)
 go_upto_region 10 with (go_at_call 33; refine hT1.mono ?_; rintro e w3 ⟨l, la, lc, rfl, hll, H1⟩)
 obtain ⟨a1, Js1, v1, r1, g1, t1, o1, q1⟩ := H1.out
 have HT1 : Hid (Rds sl A a0 a1 l /\ PG (endsOf ps) a1 /\ TwoAt w w3 rb tb sl vj v1 tj uu Js1 Ts a1 a0 /\ Row2 w3 w2.heap.size w3.heap.size rb tb vj v1 tj uu Js1 Ts (.slice la l.length lc) l /\ w2.heap.size <= w3.heap.size) := ⟨r1, g1, t1, o1, q1.fr.size⟩
 clear r1 g1 t1 o1 q1 H1 hT1
 have hT2 := HT1.out.2.2.1.tickR HT1.out.2.1 hsl (k := B) (by omega)
 go_upto_region 11 with (go_at_call 33; refine hT2.mono ?_; rintro e w4 ⟨m, ma, mc, rfl, hml, H2⟩)
 obtain ⟨a2, Js2, v2, r2, g2, t2, o2, q2⟩ := H2.out
 have HT2 : Hid (Rds sl (A + B) a0 a2 (l ++ m) /\ PG (endsOf ps) a2 /\ TwoAt w w4 rb tb sl vj v2 tj uu Js2 Ts a2 a0 /\ Row2 w4 w2.heap.size w3.heap.size rb tb vj v2 tj uu Js2 Ts (.slice la l.length lc) l /\ Row2 w4 w3.heap.size w4.heap.size rb tb vj v2 tj uu Js2 Ts (.slice ma m.length mc) m /\ w2.heap.size <= w3.heap.size /\ w3.heap.size <= w4.heap.size) := ⟨rds_add HT1.out.1 r2, g2, t2, HT1.out.2.2.2.1.turnR q2, o2, HT1.out.2.2.2.2, q2.fr.size⟩
 clear r2 g2 t2 o2 q2 H2 hT2 HT1
 have hT3 := HT2.out.2.2.1.tickT HG0.out.1 hsl (k := A + B) (by omega)
 rw [show (((A + B : Nat)) : Int) = (A : Int) + (B : Int) by omega] at hT3
 go_upto_region 12 with (go_at_call 33; refine hT3.mono ?_; rintro e w5 ⟨k, ka, kc, rfl, hkl, H3⟩)
 obtain ⟨c1, Ts1, u1, r3, g3, t3, o3, q3⟩ := H3.out
 obtain ⟨e1, e2⟩ := rds_one HT2.out.1 r3
 subst e1
 have HE2 : Hid (l ++ m = k) := e2
 have HT3 : Hid (TwoAt w w5 rb tb sl vj v2 tj u1 Js2 Ts1 a2 a2 /\ Row2 w5 w2.heap.size w3.heap.size rb tb vj v2 tj u1 Js2 Ts1 (.slice la l.length lc) l /\ Row2 w5 w3.heap.size w4.heap.size rb tb vj v2 tj u1 Js2 Ts1 (.slice ma m.length mc) m /\ Row2 w5 w4.heap.size w5.heap.size rb tb vj v2 tj u1 Js2 Ts1 (.slice ka k.length kc) k /\ w2.heap.size <= w3.heap.size /\ w3.heap.size <= w4.heap.size /\ w4.heap.size <= w5.heap.size) := ⟨t3, HT2.out.2.2.2.1.turnT q3, HT2.out.2.2.2.2.1.turnT q3, o3, HT2.out.2.2.2.2.2.1, HT2.out.2.2.2.2.2.2, q3.fr.size⟩
 have HP2 : Hid (PG (endsOf ps) a2 /\ NumP a2 /\ a2.js.length = N) := by
  have hn := rds_pn HT2.out.1 HG0.out.2
  exact ⟨HT2.out.2.1, fun i P hi => (hn.num i P hi).1, hn.len⟩
 clear r3 g3 t3 o3 q3 H3 hT3 HT2 e2
 have hown5 := HT3.out.2.1.own
 have hsrc5 := HT3.out.2.2.1.own
 have HB5 : Hid (w2.heap.size <= w5.heap.size) := Nat.le_trans HT3.out.2.2.2.2.1 (Nat.le_trans HT3.out.2.2.2.2.2.1 HT3.out.2.2.2.2.2.2)
 go_upto_region 13 with (at_builtin; go_loud (refine wpList_append_rows rfl _ _ 23 rfl w2.heap.size w3.heap.size 3 i0 _ 8 Tryz.underlying23 hi hz0 hz1 hz2 rfl _ _ _ _ _ _ rfl hown5 rfl hsrc5 (by intro u hu; obtain ⟨x, _, rfl⟩ := List.mem_map.1 hu; rfl) (by unfold maxLen; omega) (by omega) HB5.out ?_; intro v6 w6 hown6 hg6 hn6))
 have HT6 : Hid (TwoAt w w6 rb tb sl vj v2 tj u1 Js2 Ts1 a2 a2) := HT3.out.1.grown HT3.out.2.1 HW2.out hg6
 have hK6 : w6.ownsRow w4.heap.size 3 1 (.slice ka k.length kc) k.length (intsN k) := row_kept HT3.out.2.2.2.1.own fun x e => hg6.block x (HT3.out.2.2.2.1.own.lt x e).2 fun e2 => by
  have f1 := HT3.out.2.1.lt x e2.symm
  have f2 := (HT3.out.2.2.2.1.own.lt x e).1
  have f3 := HT3.out.2.2.2.2.2.1
  omega
 have hS6 := rows_same (xs := l ++ m) (ys := k) hown6 (by unfold intsN; rw [List.map_append]) (by rw [List.length_append]) hK6 HE2.out (by omega)
 clear hown6 hg6 hn6 hK6 HT3 HB5 HE2 hown5 hsrc5
 go_upto_region 14 with (go_at_call 36; refine hS6.mono ?_; rintro e w7 ⟨rfl, hb7⟩)
 have HT7 : Hid (TwoAt w w7 rb tb sl vj v2 tj u1 Js2 Ts1 a2 a2) := HT6.out.below hb7
 clear hS6 hb7 HT6
 go_wp2
 go_loopw [24] (fun t wr => ∃ x : Nat, t = .int .i64 x /\ x <= N /\ Hid (TwoAt w wr rb tb sl vj v2 tj u1 Js2 Ts1 a2 a2)) (fun t _ => N - (intOf t).toNat)
 case atStart => exact ⟨0, rfl, Nat.zero_le _, HT7.out⟩
 case round =>
  obtain ⟨x, rfl, hx, HT⟩ := hrel
  by_cases hxl : x < N
  ·have hxi : (x : Int) < (N : Int) := by omega
   obtain ⟨P, hP⟩ : ∃ P, a2.js[x]? = some P := ⟨_, List.getElem?_eq_getElem (by rw [HP2.out.2.2]; exact hxl)⟩
   have hJ1 := HT.out.r.job HP2.out.1.l5 hP (n := (x : Int) + 1) rfl
   have HJ2 : Hid _ := fun W (hb : Below wr.heap.size wr W) => (HT.out.t.below hb).job HP2.out.1.l5 hP (n := (x : Int) + 1) rfl
   have HSame : Hid (∀ (W : World) (oa ob : Option Addr) (ca cb lo1 lo2 : Nat), P.m.out.length <= 60 -> W.ownsRow lo1 3 1 (.slice oa P.m.out.length ca) P.m.out.length (P.m.out.map (.int .i64)) -> W.ownsRow lo2 3 1 (.slice ob P.m.out.length cb) P.m.out.length (P.m.out.map (.int .i64)) -> Calls Tryz.prog 26 #[.agg #[.int .i64 ((P.m.over.getD 0 : Nat) : Int), .slice oa P.m.out.length ca, .int .i64 (P.m.used : Nat)], .agg #[.int .i64 ((P.m.over.getD 0 : Nat) : Int), .slice ob P.m.out.length cb, .int .i64 (P.m.used : Nat)]] W fun e w' => e = .returned (.bool true) /\ Below W.heap.size W w') := fun W oa ob ca cb lo1 lo2 hl g1 g2 => same_told hl g1 g2
   clear hP
   generalize P.m.over.getD 0 = oc at *
   generalize P.m.out.length = ol at *
   generalize P.m.used = ou at *
   generalize (if P.done = true then (1 : Int) else 0) = dv at *
   go_upto_region 20 with (go_at_call 35; refine hJ1.mono ?_; rintro e w8 ⟨oa, ca, rfl, h60, HU8, hb8⟩)
   have hJ2 := HJ2.out (w8.alloc (.cells #[.int .i64 (oc : Nat), .slice oa ol ca, .int .i64 (ou : Nat)] 39)) (hb8.trans (((Below.refl _ _).alloc (Nat.le_refl _) _).mono hb8.size))
   go_upto_region 21 with (go_at_call 35; refine hJ2.mono ?_; rintro e w9 ⟨ob, cb, rfl, _, HU9, hb9⟩)
   have hb10 : Below (w8.alloc (.cells #[.int .i64 (oc : Nat), .slice oa ol ca, .int .i64 (ou : Nat)] 39)).heap.size (w8.alloc (.cells #[.int .i64 (oc : Nat), .slice oa ol ca, .int .i64 (ou : Nat)] 39)) (w9.alloc (.cells #[.int .i64 (oc : Nat), .slice ob ol cb, .int .i64 (ou : Nat)] 39)) := hb9.trans (((Below.refl _ _).alloc (Nat.le_refl _) _).mono hb9.size)
   obtain ⟨t1, _, hb11⟩ := one_cells hb10
   have r0 := t1 0 _ rfl
   have r1 := t1 1 _ rfl
   have r2 := t1 2 _ rfl
   have s0 : (w9.alloc (.cells #[.int .i64 (oc : Nat), .slice ob ol cb, .int .i64 (ou : Nat)] 39)).cell? ⟨w9.heap.size, 0, none⟩ = some (.int .i64 (oc : Nat)) := World.cell?_alloc_new w9 _ _ 0
   have s1 : (w9.alloc (.cells #[.int .i64 (oc : Nat), .slice ob ol cb, .int .i64 (ou : Nat)] 39)).cell? ⟨w9.heap.size, 1, none⟩ = some (.slice ob ol cb) := World.cell?_alloc_new w9 _ _ 1
   have s2 : (w9.alloc (.cells #[.int .i64 (oc : Nat), .slice ob ol cb, .int .i64 (ou : Nat)] 39)).cell? ⟨w9.heap.size, 2, none⟩ = some (.int .i64 (ou : Nat)) := World.cell?_alloc_new w9 _ _ 2
   have hSm := HSame.out _ oa ob ca cb _ _ h60 (owns_below HU8.out hb11) (owns_below HU9.out ((Below.refl _ _).alloc (Nat.le_refl _) (.cells #[.int .i64 (oc : Nat), .slice ob ol cb, .int .i64 (ou : Nat)] 39)))
   have HBx : Hid (Below wr.heap.size wr (w9.alloc (.cells #[.int .i64 (oc : Nat), .slice ob ol cb, .int .i64 (ou : Nat)] 39))) := hb8.trans (hb11.mono hb8.size)
   clear hJ1 hJ2 HJ2 HSame HU8 HU9 hb8 hb9 hb10 hb11 t1
   generalize (w9.alloc (.cells #[.int .i64 (oc : Nat), .slice ob ol cb, .int .i64 (ou : Nat)] 39)) = W9 at *
   generalize w8.heap.size = b8 at *
   generalize w9.heap.size = b9 at *
   go_wp2_with (go_at_call 26; refine hSm.mono ?_; rintro e w10 ⟨rfl, hb12⟩)
   go_roundw
   case rel => exact ⟨x + 1, by go_num, by omega, HT.out.below (HBx.out.trans (hb12.mono HBx.out.size))⟩
   case measure => simp [intOf]; omega
  ·have hxi : ¬ (x : Int) < (N : Int) := by omega
   by_cases hN0 : N = 0
   ·have hNi : (N : Int) = 0 := by omega
    go_wp2
    go_ret
    exact ⟨rfl, HT.out.bel⟩
   ·have hNi : ¬ (N : Int) = 0 := by omega
    obtain ⟨D, hD, hDN⟩ := pick_nat drop (n := N) (by omega)
    have hPx := hPd N (by omega) hN5
    rw [hD] at hPx
    obtain ⟨P, hP⟩ : ∃ P, a2.js[D]? = some P := ⟨_, List.getElem?_eq_getElem (by rw [HP2.out.2.2]; exact hDN)⟩
    have hJ1 := HT.out.r.job HP2.out.1.l5 hP (n := 1 + (D : Int)) (by omega)
    have HSame : Hid (∀ (W : World) (oa ob : Option Addr) (ca cb lo1 lo2 : Nat), P.m.out.length <= 60 -> W.ownsRow lo1 3 1 (.slice oa P.m.out.length ca) P.m.out.length (P.m.out.map (.int .i64)) -> W.ownsRow lo2 3 1 (.slice ob P.m.out.length cb) P.m.out.length (P.m.out.map (.int .i64)) -> Calls Tryz.prog 26 #[.agg #[.int .i64 ((P.m.over.getD 0 : Nat) : Int), .slice oa P.m.out.length ca, .int .i64 (P.m.used : Nat)], .agg #[.int .i64 ((P.m.over.getD 0 : Nat) : Int), .slice ob P.m.out.length cb, .int .i64 (P.m.used : Nat)]] W fun e w' => e = .returned (.bool true) /\ Below W.heap.size W w') := fun W oa ob ca cb lo1 lo2 hl g1 g2 => same_told hl g1 g2
    go_upto_region 27 with (go_at_call 23; refine (hPx _).mono ?_; rintro e wx ⟨rfl, h9⟩; cases h9)
    have HJ4 : Hid (∀ (W : World) (a4 : PRm) (Js4 : List JM) (v4 : Value), RRep W rb sl vj v4 Js4 a4 -> a4.js.length <= 5 -> a4.js[D]? = some { P with done := true } -> Calls Tryz.prog 35 #[.pointer (some ⟨rb, 0, none⟩), .int .i64 (1 + (D : Int))] W fun e w' => ∃ oa oc, e = .returned (.tuple #[.agg #[.int .i64 ((P.m.over.getD 0 : Nat) : Int), .slice oa P.m.out.length oc, .int .i64 (P.m.used : Nat)], .int .i64 1, .int .i64 0]) /\ P.m.out.length <= 60 /\ Hid (w'.ownsRow W.heap.size 3 1 (.slice oa P.m.out.length oc) P.m.out.length (P.m.out.map (.int .i64))) /\ Below W.heap.size W w') := fun W a4 Js4 v4 g1 g2 g3 => g1.job g2 g3 (by omega)
    have HTn : Hid (∀ (w8 : World) (oa : Option Addr) (ca : Nat), Below wr.heap.size wr w8 -> w8.ownsRow wr.heap.size 3 1 (.slice oa P.m.out.length ca) P.m.out.length (P.m.out.map (.int .i64)) -> Told2 (w8.alloc (.cells #[.int .i64 ((P.m.over.getD 0 : Nat) : Int), .slice oa P.m.out.length ca, .int .i64 (P.m.used : Nat)] 39)) rb vj v2 Js2 w8.heap.size (P.m.over.getD 0) P.m.used oa ca P.m.out /\ TwoAt w (w8.alloc (.cells #[.int .i64 ((P.m.over.getD 0 : Nat) : Int), .slice oa P.m.out.length ca, .int .i64 (P.m.used : Nat)] 39)) rb tb sl vj v2 tj u1 Js2 Ts1 a2 a2) := fun w8 oa ca g1 g2 => ⟨told_new HT.out.r.room g1 g2, HT.out.below (g1.trans (((Below.refl _ _).alloc (Nat.le_refl _) _).mono g1.size))⟩
    generalize P.m.over.getD 0 = oc at *
    generalize hol : P.m.out.length = ol at *
    generalize P.m.used = ou at *
    generalize hdv : (if P.done = true then (1 : Int) else 0) = dv at *
    go_upto_region 28 with (go_at_call 35; refine hJ1.mono ?_; rintro e w8 ⟨oa, ca, rfl, h60, HU8, hb8⟩)
    have HX : Hid (Told2 (w8.alloc (.cells #[.int .i64 (oc : Nat), .slice oa ol ca, .int .i64 (ou : Nat)] 39)) rb vj v2 Js2 w8.heap.size oc ou oa ca P.m.out) := (HTn.out w8 oa ca hb8 HU8.out).1
    have hDr := (HTn.out w8 oa ca hb8 HU8.out).2.drop HP2.out.1 HP2.out.2.1 hP (n := 1 + (D : Int)) (by omega)
    clear HTn hJ1 HU8 hb8 HT
    generalize (w8.alloc (.cells #[.int .i64 (oc : Nat), .slice oa ol ca, .int .i64 (ou : Nat)] 39)) = W8 at *
    generalize w8.heap.size = b8 at *
    go_upto_region 29 with (go_at_call 37; refine hDr.mono ?_; rintro e w9 ⟨hc, rfl, hcase, H9⟩)
    obtain ⟨a3, Js3, v3, g3, n3, i3, t3, q3⟩ := H9.out
    have hD2 : Calls Tryz.prog 37 #[.pointer (some ⟨rb, 0, none⟩), .int .i64 (1 + (D : Int))] w9 fun e w' => e = .returned (.int .i64 18) /\ w' = w9 := by
     rw [Int.add_comm]
     exact drop_over t3.r g3.l5 i3 rfl
    have hT5 : Calls Tryz.prog 33 #[.pointer (some ⟨rb, 0, none⟩), .int .i64 500] w9 fun e w' => ∃ (l : List Nat) (la : Option Addr) (lc : Nat), e = .returned (.tuple #[.slice la l.length lc, .int .i64 0]) /\ l.length <= 500 /\ Hid (∃ a' Js' v', Rds sl 500 a3 a' l /\ PG (endsOf ps) a' /\ TwoAt w w' rb tb sl vj v' tj u1 Js' Ts1 a' a2 /\ Row2 w' w9.heap.size w'.heap.size rb tb vj v' tj u1 Js' Ts1 (.slice la l.length lc) l /\ RM rb vj v3 Js3 vj v' Js' w9 w') := t3.tickR g3 hsl (k := 500) (Nat.le_refl _)
    have HX9 : Hid (Told2 w9 rb vj v3 Js3 b8 oc ou oa ca P.m.out /\ NumP a3 /\ a3.js[D]? = some { P with done := true }) := ⟨HX.out.turn q3, n3, i3⟩
    clear g3 n3 i3 t3 q3 H9 hDr HX
    go_upto_region 30 with (go_at_call 37; refine hD2.mono ?_; rintro e wx ⟨rfl, h9⟩; cases h9)
    go_upto_region 31 with (go_at_call 33; refine hT5.mono ?_; rintro e w11 ⟨ls, sa, sc, rfl, hls, H11⟩)
    obtain ⟨a4, Js4, v4, r4, g4, t4, o4, q4⟩ := H11.out
    obtain ⟨_, i4, nt⟩ := rds_done r4 HX9.out.2.1 HX9.out.2.2 rfl
    have hJ4 := HJ4.out w11 a4 Js4 v4 t4.r g4.l5 i4
    have HX11 : Hid (Told2 w11 rb vj v4 Js4 b8 oc ou oa ca P.m.out /\ TwoAt w w11 rb tb sl vj v4 tj u1 Js4 Ts1 a4 a2 /\ w11.ownsRow w9.heap.size 3 1 (.slice sa ls.length sc) ls.length (intsN ls) /\ D + 1 ∉ ls) := ⟨HX9.out.1.turn q4, t4, o4.own, nt⟩
    clear r4 g4 t4 o4 q4 i4 nt H11 hT5 hD2 HX9 HJ4
    go_upto_region 32 with (go_at_call 35; refine hJ4.mono ?_; rintro e w12 ⟨ob, cb, rfl, _, HU12, hb12⟩)
    have hbn : Below w12.heap.size w12 (w12.alloc (.cells #[.int .i64 (oc : Nat), .slice ob ol cb, .int .i64 (ou : Nat)] 39)) := (Below.refl _ _).alloc (Nat.le_refl _) _
    have hbx : Below w11.heap.size w11 (w12.alloc (.cells #[.int .i64 (oc : Nat), .slice ob ol cb, .int .i64 (ou : Nat)] 39)) := hb12.trans (hbn.mono hb12.size)
    have hTe := HX11.out.1.below hbx
    have k0 := hTe.k0
    have k1 := hTe.k1
    have k2 := hTe.k2
    have ko := hTe.own
    rw [hol] at k1 ko
    have s0 : (w12.alloc (.cells #[.int .i64 (oc : Nat), .slice ob ol cb, .int .i64 (ou : Nat)] 39)).cell? ⟨w12.heap.size, 0, none⟩ = some (.int .i64 (oc : Nat)) := World.cell?_alloc_new w12 _ _ 0
    have s1 : (w12.alloc (.cells #[.int .i64 (oc : Nat), .slice ob ol cb, .int .i64 (ou : Nat)] 39)).cell? ⟨w12.heap.size, 1, none⟩ = some (.slice ob ol cb) := World.cell?_alloc_new w12 _ _ 1
    have s2 : (w12.alloc (.cells #[.int .i64 (oc : Nat), .slice ob ol cb, .int .i64 (ou : Nat)] 39)).cell? ⟨w12.heap.size, 2, none⟩ = some (.int .i64 (ou : Nat)) := World.cell?_alloc_new w12 _ _ 2
    have hSm := HSame.out _ oa ob ca cb _ _ h60 ko (owns_below HU12.out hbn)
    have HX12 : Hid (Below w.heap.size w (w12.alloc (.cells #[.int .i64 (oc : Nat), .slice ob ol cb, .int .i64 (ou : Nat)] 39)) /\ (w12.alloc (.cells #[.int .i64 (oc : Nat), .slice ob ol cb, .int .i64 (ou : Nat)] 39)).ownsRow w9.heap.size 3 1 (.slice sa ls.length sc) ls.length (intsN ls) /\ D + 1 ∉ ls) := ⟨HX11.out.2.1.bel.trans (hbx.mono HX11.out.2.1.bel.size), owns_below HX11.out.2.2.1 hbx, HX11.out.2.2.2⟩
    clear hTe hbn hbx ko hJ4 HU12 hb12 HSame HX11
    generalize (w12.alloc (.cells #[.int .i64 (oc : Nat), .slice ob ol cb, .int .i64 (ou : Nat)] 39)) = W12 at *
    generalize w12.heap.size = b12 at *
    go_wp2_with (go_at_call 26; refine hSm.mono ?_; rintro e w13 ⟨rfl, hb13⟩)
    have HX13 : Hid (Below w.heap.size w w13 /\ w13.ownsRow w9.heap.size 3 1 (.slice sa ls.length sc) ls.length (intsN ls) /\ D + 1 ∉ ls) := ⟨HX12.out.1.trans (hb13.mono HX12.out.1.size), owns_below HX12.out.2.1 hb13, HX12.out.2.2⟩
    clear k0 k1 k2 s0 s1 s2 hSm hb13 HX12
    go_loop [44, 45] (fun s i => s = .bool false /\ ∃ y : Nat, y <= ls.length /\ i = .int .i64 y) (fun _ i => ls.length - (intOf i).toNat)
    case atStart => exact ⟨rfl, 0, Nat.zero_le _, rfl⟩
    case round =>
     obtain ⟨rfl, y, hy, rfl⟩ := hrel
     by_cases hyl : y < ls.length
     ·have hyi : (y : Int) < (ls.length : Int) := by omega
      have hrow := HX13.out.2.1
      obtain ⟨gg, cap2, e, _, _⟩ := hrow.form (by omega)
      cases e
      have cy : w13.cell? ⟨gg, y, none⟩ = some (.int .i64 ((ls[y] : Nat) : Int)) := by
       rw [hrow.cellAt y (by omega)]
       unfold intsN
       rw [List.getElem?_map, List.getElem?_eq_getElem hyl]
       rfl
      have hne : ¬ ((ls[y] : Nat) : Int) = 1 + (D : Int) := fun e => by
       have e2 : ls[y] = D + 1 := by omega
       exact HX13.out.2.2 (by rw [<- e2]; exact List.getElem_mem hyl)
      generalize ls[y] = lsy at *
      clear hrow
      go_wp2
      go_round
      case rel => exact ⟨congrArg Value.bool (by simpa using hne), y + 1, by omega, by go_num⟩
      case measure => simp [intOf]; omega
     ·have hyi : ¬ (y : Int) < (ls.length : Int) := by omega
      rcases hcase with ⟨hd, rfl⟩ | ⟨hd, rfl⟩
      ·rw [hd, if_pos rfl] at hdv
       subst hdv
       go_wp2
       go_ret
       exact ⟨rfl, HX13.out.1⟩
      ·rw [hd, if_neg (by decide)] at hdv
       subst hdv
       go_wp2
       go_ret
       exact ⟨rfl, HX13.out.1⟩
open Go.ChangeShapes Go.WideShapes Go.ChangeAt
theorem row_lifted (os : Os) (started : os.Started) (H : Type) (enc : TypeId × Value -> H) :
  ReturnsInHanded {} Tryz.checked os 12 .any (Rows.splitSpec.pre6 enc Tryz.prog Tryz.f12 Rows.splitRow.domain false) (Rows.splitSpec.post enc Tryz.prog Tryz.f12 false true false false) := by
 refine returnsInHanded_of_change_sized (C := Tryz.checked) row_own started (by kernel_rfl) Tryz.func12
  (ChangeSpec.witness6 (enc := enc) (C := Tryz.checked) false ⟨#[], #[.slice none 0 0, .int .i64 0, .int .i64 0, .int .i64 0, .int .i64 0], []⟩ 8 (by kernel_rfl) (by kernel_rfl) (by kernel_rfl) (by kernel_rfl)) ?_
 intro W base args ds gs before hval0 hW hcnd hsz0 _
 have hsz : (DataW.weightsEach Tryz.prog (Tryz.f12.params.toList ++ Rows.splitSpec.plain.varTypes Tryz.prog) (ds ++ gs)).all (· <= reachBytes) = true := hsz0
 clear hsz0
 have hval : ∀ (j : Nat) t v, Tryz.f12.params[j]? = some t -> args[j]? = some v -> Value.okWide Tryz.prog W .any base t v := hval0
 have hW' := hW
 obtain ⟨p, q, hA0, hV, rfl, hfz, hnd⟩ := hW
 have hA : DataW.TrodAll enc Tryz.prog W 0 (fun _ => true) true Tryz.f12.params.toList args.toList ds p := hA0
 rw [Tryz.params12] at hA hval hsz
 obtain ⟨v0, vs0, d0, ds0, p0, q0, hargs, rfl, rfl, h0, r0⟩ := trodAll_cons hA
 obtain ⟨v1, vs1, d1, ds1, p1, q1, rfl, rfl, rfl, h1, r1⟩ := trodAll_cons r0
 obtain ⟨v2, vs2, d2, ds2, p2, q2, rfl, rfl, rfl, h2, r2⟩ := trodAll_cons r1
 obtain ⟨v3, vs3, d3, ds3, p3, q3, rfl, rfl, rfl, h3, r3⟩ := trodAll_cons r2
 obtain ⟨v4, vs4, d4, ds4, p4, q4, rfl, rfl, rfl, h4, r4⟩ := trodAll_cons r3
 obtain ⟨rfl, rfl, rfl⟩ := trodAll_nil r4
 obtain rfl : args = #[v0, v1, v2, v3, v4] := by cases args; simp_all
 obtain ⟨rfl, rfl⟩ := trodVars_none hV
 obtain ⟨a0, len0, cap0, rfl⟩ := okWide_slice Tryz.underlying60 (hval 0 60 v0 rfl rfl)
 have lt0 : ∀ x ∈ p0, x.block < W.heap.size := by obtain ⟨m, hm⟩ := h0; exact DataW.trod_lt m _ _ _ hm
 obtain ⟨ps, i0⟩ := pups_param h0 (pups_size (j := 0) hsz rfl rfl)
 obtain ⟨a1, rfl, rfl, rfl, w1⟩ := open_int Tryz.underlying3 (hval 1 3 v1 rfl rfl) h1
 obtain ⟨a2, rfl, rfl, rfl, w2⟩ := open_int Tryz.underlying3 (hval 2 3 v2 rfl rfl) h2
 obtain ⟨a3, rfl, rfl, rfl, w3⟩ := open_int Tryz.underlying3 (hval 3 3 v3 rfl rfl) h3
 obtain ⟨a4, rfl, rfl, rfl, w4⟩ := open_int Tryz.underlying3 (hval 4 3 v4 rfl rfl) h4
 clear hA0 hval0
 obtain ⟨g1, g2⟩ := bounds_i64 w1
 obtain ⟨g3, g4⟩ := bounds_i64 w2
 obtain ⟨g5, g6⟩ := bounds_i64 w3
 obtain ⟨g7, g8⟩ := bounds_i64 w4
 refine (Split_any (.slice a0 len0 cap0) ps a1 a2 a3 a4 W i0 g1 g2 g3 g4 g5 g6 g7 g8).mono fun e W' ⟨he, bel⟩ => ?_
 subst he
 exact ⟨_, rfl, _, _, _, [], _, [], hW', trodAll_mk1 (shut_bool Tryz.underlying4 _), (trodAll_cons_mk (Below.trod row_laidOut (by kernel_rfl) (of_decide_eq_true (by kernel_rfl)) h0 bel lt0) (trodAll_cons_mk (shut_int Tryz.underlying3 w1) (trodAll_cons_mk (shut_int Tryz.underlying3 w2) (trodAll_cons_mk (shut_int Tryz.underlying3 w3) (trodAll_cons_mk (shut_int Tryz.underlying3 w4) trodAll_mk0))))), rfl, bel.frame _, fun h => by cases h⟩
theorem row_over : Rows.splitRow.holds Tryz.pinned (OpenSpec.ofChange Rows.splitSpec) :=
 OpenClaim.holds_of_wide 12 Tryz.f12 rfl rfl rfl rfl rfl rfl rfl ⟨rfl, rfl, rfl, rfl, rfl⟩ rfl rfl rfl rfl rfl (by kernel_rfl) Tryz.func12 (by kernel_rfl)
  (of_decide_eq_true (by kernel_rfl)) (by unfold Func.isWrapper; first | (rw [if_pos (by decide +kernel)]; kernel_rfl) | (rw [if_neg (by decide +kernel)]; exact ⟨rfl, rfl⟩))
  (fun os started H enc _ => row_lifted os started H enc)
theorem split_holds : Rows.SplitSaid :=
 row_over
#print axioms split_holds
end Go.Proofs.YtklobognaldjpaaGreat
