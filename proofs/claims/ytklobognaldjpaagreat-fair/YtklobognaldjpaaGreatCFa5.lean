/- The law Fair: its contract. For all pupils, every slice and every number of rounds, lecternkeep.Fair returns true: none is ahead for long, and what was written so far is a beginning. No condition. -/
import Derived.Test.YtklobognaldjpaaGreatCFa3
import Derived.Test.YtklobognaldjpaaGreatCSp1
set_option maxRecDepth 1000000
set_option maxHeartbeats 8000000
namespace Go.Proofs.YtklobognaldjpaaGreat
open Go.RowKit
theorem Fair_any (v : Value) (ps : List Pup) (slice rounds : Int) (w : World) (h : PupAt w v ps) (h1 : -9223372036854775808 <= slice) (h2 : slice <= 9223372036854775807) (h3 : -9223372036854775808 <= rounds) (h4 : rounds <= 9223372036854775807) :
  Calls Tryz.prog 11 #[v, .int .i64 slice, .int .i64 rounds] w fun e w' => e = .returned (.bool true) /\ Below w.heap.size w w' := by
 obtain ⟨i0, hi, hz0, hz1, hz2⟩ := info_parts Tryz.infoOut
 have HRm : Hid (∀ W, Below w.heap.size w W -> PupAt W v ps) := fun W hb => h.under hb
 have hR := fun W (hb : Below w.heap.size w W) => room_any v ps slice W (HRm.out W hb) h1 h2
 obtain ⟨q, hq, hql⟩ : ∃ q : Nat, pickI slice 50 = q /\ q < 50 := ⟨(pickI slice 50).toNat, by have := (pickI_lt slice (n := 50) (by omega)).2.1; simp at this; omega, (pickI_lt slice (n := 50) (by omega)).1⟩
 have hsl : slOf slice = 1 + q := by unfold slOf; rw [hq]; simp
 obtain ⟨R, hr, hrl⟩ : ∃ q : Nat, pickI rounds 60 = q /\ q < 60 := ⟨(pickI rounds 60).toNat, by have := (pickI_lt rounds (n := 60) (by omega)).2.1; simp at this; omega, (pickI_lt rounds (n := 60) (by omega)).1⟩
 have hP := fun W => pick_any slice 50 W h1 h2 (by omega) (by omega)
 have hPr := fun W => pick_any rounds 60 W h3 h4 (by omega) (by omega)
 rw [hq] at hP
 rw [hr] at hPr
 rw [hsl] at hR
 clear hsl hq hr
 obtain ⟨a, cap, rfl, hpl, _⟩ := h
 go_enter Tryz.func11, Tryz.ntmps11
 go_upto_region 7 with (first
  | (go_at_call 31; refine (turning_any _).mono ?_; rintro e wa ⟨rfl, hba⟩)
  | (go_at_call 32; refine (hR _ hba).mono ?_; rintro e w1 ⟨rb, Js, vj, vv, rfl, hrep, hfoot, hb1⟩))
 have emin : min (ps.length : Int) 5 = ((min ps.length 5 : Nat) : Int) := by omega
 rw [emin]
 obtain ⟨N, hN, hN5⟩ : ∃ N, min ps.length 5 = N /\ N <= 5 := ⟨_, rfl, by omega⟩
 rw [hN]
 have hB1 : Below w.heap.size w w1 := hba.trans (hb1.mono hba.size)
 have HB1 : Hid (Below w.heap.size w w1 /\ RRep w1 rb (1 + q) vj vv Js (pushAll ⟨[], []⟩ (ps.take 5)) /\ ∀ b, RFoot rb vj vv Js b -> w.heap.size <= b) := ⟨hB1, hrep, fun b hb => Nat.le_trans hba.size (hfoot b hb)⟩
 clear hrep hfoot hb1 hba hR hB1
 go_wp2
 go_loopw [10, 11] (fun s t wr => ∃ (j : Nat) (qs : List Q3), t = .int .i64 j /\ j <= N /\ qs.map (·.1) = ps.take j /\ WhAt w1.heap.size wr s qs /\ Below w1.heap.size w1 wr) (fun _ t _ => N - (intOf t).toNat)
 case atStart => exact ⟨0, [], rfl, Nat.zero_le _, rfl, ⟨World.ownsRow_nil _ _ _ _, (fun x hx => by cases hx), (fun x hx => by cases hx), (fun x hx => by cases hx)⟩, Below.refl _ _⟩
 case round =>
  obtain ⟨j, qs, rfl, hj, hqs, hW, hB⟩ := hrel
  have hql2 : qs.length = j := by have := congrArg List.length hqs; rw [List.length_map, List.length_take] at this; omega
  have hBw : Below w.heap.size w wr := HB1.out.1.trans (hB.mono HB1.out.1.size)
  by_cases hlt : j < N
  ·have hji : (j : Int) < (N : Int) := by omega
   have hjp : j < ps.length := by omega
   have hjpi : (j : Int) < (ps.length : Int) := by omega
   obtain ⟨a2, cap2, e2, _, hcs⟩ := HRm.out wr hBw
   injection e2 with e3 _ e4
   subst e3
   subst e4
   rcases hcs with h0 | ⟨pb, off, rfl, hpb, hcs⟩
   ·rw [h0] at hjp; simp at hjp
   obtain ⟨⟨f1, f2⟩, hil, vr, vi, d0, d1, d2, i1, i2⟩ := hcs j ps[j] (List.getElem?_eq_getElem hjp)
   obtain ⟨pf1, pf2⟩ := pup_f ps[j]
   have hT := taken_any vr vi (ps[j]).raw (ps[j]).inp (ps[j]).fuel wr i1 i2 hil f1 f2
   rw [pf1] at hT
   have hnext : (ps.take (j + 1)) = ps.take j ++ [ps[j]] := by rw [List.take_add_one, List.getElem?_eq_getElem hjp]; rfl
   have HRu : Hid (∀ (W : World) (base : Nat) (oa : Option Addr) (oc : Nat), W.ownsRow base 3 1 (.slice oa (ps[j]).inp.length oc) (ps[j]).inp.length (((ps[j]).inp.map wrapV).map (.int .i64)) -> Calls Tryz.prog 19 #[.string ⟨(txtOf (ps[j]).raw).toArray⟩, .slice oa (ps[j]).inp.length oc, .int .i64 ((ps[j]).f : Nat)] W fun e w' => Below W.heap.size W w' /\ ∃ ra rc, e = .returned (.tuple #[.agg #[.int .i64 ((ps[j]).out.1 : Nat), .slice ra (ps[j]).out.2.1.length rc, .int .i64 ((ps[j]).out.2.2 : Nat)], .int .i64 0, .int .i64 0]) /\
    Hid (w'.ownsRow W.heap.size 3 1 (.slice ra (ps[j]).out.2.1.length rc) (ps[j]).out.2.1.length ((ps[j]).out.2.1.map (.int .i64)) /\ (ps[j]).out.2.1.length <= 60)) := fun W base oa oc ho => pup_runs ps[j] ho hil
   have HX : Hid (qs.map (·.1) = ps.take j /\ ps.take (j + 1) = ps.take j ++ [ps[j]]) := ⟨hqs, hnext⟩
   clear hcs i1 i2 pf1 f1 f2 hqs hnext
   obtain ⟨sa, sc, hsv⟩ := owned_any hW.own
   subst hsv
   rw [hql2] at hW
   have HW : Hid (WhAt w1.heap.size wr (.slice sa j sc) qs) := hW
   clear hW
   generalize hpj : ps[j] = pj at *
   generalize hpc : pj.out.1 = pc at *
   generalize hpn : pj.out.2.1.length = pn at *
   generalize hpu : pj.out.2.2 = pu at *
   generalize txtOf pj.raw = tx at *
   go_wp2_with (first
    | (go_at_call 34; go_loud (refine hT.mono ?_; rintro e w2 ⟨oa, oc, rfl, ho2, hb2⟩; have hR2 := HRu.out w2 _ oa oc ho2; have hbx2 := hB.trans (hb2.mono hB.size)))
    | (go_at_call 19; go_loud (refine hR2.mono ?_; rintro e w3 ⟨hb3, ra, rc, rfl, HO3⟩; have hbx3 := hbx2.trans (hb3.mono hbx2.size)))
    | (at_builtin; go_loud (have hb4 := up_two w3 (.cells #[.int .i64 (pc : Nat), .slice ra pn rc, .int .i64 (pu : Nat)] 39) (.cells #[.int .i64 (pc : Nat), .slice ra pn rc, .int .i64 (pu : Nat)] 39); have hbw4 := (hb2.trans (hb3.mono hb2.size)).trans (hb4.mono (Nat.le_trans hb2.size hb3.size)); have HW4 : Hid (WhAt w1.heap.size ((w3.alloc (.cells #[.int .i64 (pc : Nat), .slice ra pn rc, .int .i64 (pu : Nat)] 39)).alloc (.cells #[.int .i64 (pc : Nat), .slice ra pn rc, .int .i64 (pu : Nat)] 39)) (.slice sa j sc) qs) := HW.out.below hbw4; have hown4 := HW4.out.own; rw [hql2] at hown4);
        go_loud (refine wpList_append_own2 rfl _ _ 73 rfl w1.heap.size 39 i0 _ 3 40 Tryz.underlying73 hi hz0 hz1 hz2 rfl (by decide) _ _ _ rfl hown4 ⟨w3.heap.size + 1, 0, none⟩ 1 1 [.int .i64 (pc : Nat), .slice ra pn rc, .int .i64 (pu : Nat)] rfl rfl (by have h9 := three_new (w3.alloc (.cells #[.int .i64 (pc : Nat), .slice ra pn rc, .int .i64 (pu : Nat)] 39)) (.int .i64 (pc : Nat)) (.slice ra pn rc) (.int .i64 (pu : Nat)) 39; rw [show (w3.alloc (.cells #[.int .i64 (pc : Nat), .slice ra pn rc, .int .i64 (pu : Nat)] 39)).heap.size = w3.heap.size + 1 by simp] at h9; exact h9) (by intro u hu; simp at hu; rcases hu with rfl | rfl | rfl <;> rfl) (by unfold maxLen; omega) (by omega) (Nat.le_trans hbx3.size hb4.size) ?_);
        go_loud (intro v5 w5 hown5 hg5 hn5; have HN5 : Hid (WhAt w1.heap.size w5 v5 (qs ++ [(pj, ra, rc)]) /\ Below w1.heap.size w1 w5) := (by
         subst hpc hpn hpu
         have hbx4 := hbx3.trans (hb4.mono hbx3.size)
         refine ⟨HW4.out.grow (lx := w2.heap.size) (owns_below HO3.out.1 hb4) hbx2.size (fun k e => Nat.lt_of_lt_of_le (HW.out.own.lt k e).2 hb2.size) HO3.out.2 (by rw [hql2]; exact hown5) hg5 hn5, below_grow hbx4 hg5 hbx4.size fun k e => (HW.out.own.lt k e).1⟩); obtain ⟨va3, vc3, hv5⟩ := owned_any hown5; subst hv5)))
   go_roundw
   case rel => exact ⟨j + 1, qs ++ [(pj, ra, rc)], by go_num, by omega, by rw [List.map_append, HX.out.1, HX.out.2]; rfl, HN5.out.1, HN5.out.2⟩
   case measure => simp [intOf]; omega
  ·have hji : ¬ (j : Int) < (N : Int) := by omega
   have hjN : j = N := by omega
   subst hjN
   obtain ⟨sa, sc, hsv⟩ := owned_any hW.own
   subst hsv
   rw [hql2] at hW
   have HF0 : Hid (FrAt w ((wr.alloc (.cells #[.int .i64 0, .int .i64 0, .int .i64 0, .int .i64 0, .int .i64 0] 74)).alloc (.cells #[.int .i64 0, .int .i64 0, .int .i64 0, .int .i64 0, .int .i64 0] 74)) ((wr.alloc (.cells #[.int .i64 0, .int .i64 0, .int .i64 0, .int .i64 0, .int .i64 0] 74)).alloc (.cells #[.int .i64 0, .int .i64 0, .int .i64 0, .int .i64 0, .int .i64 0] 74)) rb (1 + q) w1.heap.size wr.heap.size (wr.heap.size + 1) j vj ps (pushAll ⟨[], []⟩ (ps.take 5)) Js vv /\ ArrAt ((wr.alloc (.cells #[.int .i64 0, .int .i64 0, .int .i64 0, .int .i64 0, .int .i64 0] 74)).alloc (.cells #[.int .i64 0, .int .i64 0, .int .i64 0, .int .i64 0, .int .i64 0] 74)) wr.heap.size (usOf (pushAll ⟨[], []⟩ (ps.take 5))) /\ ArrAt ((wr.alloc (.cells #[.int .i64 0, .int .i64 0, .int .i64 0, .int .i64 0, .int .i64 0] 74)).alloc (.cells #[.int .i64 0, .int .i64 0, .int .i64 0, .int .i64 0, .int .i64 0] 74)) (wr.heap.size + 1) (dnOf (pushAll ⟨[], []⟩ (ps.take 5))) /\ WhAt w1.heap.size ((wr.alloc (.cells #[.int .i64 0, .int .i64 0, .int .i64 0, .int .i64 0, .int .i64 0] 74)).alloc (.cells #[.int .i64 0, .int .i64 0, .int .i64 0, .int .i64 0, .int .i64 0] 74)) (.slice sa j sc) qs /\ ∀ (x : Nat), (x = wr.heap.size ∨ x = wr.heap.size + 1) -> (∀ y ∈ qs, ∀ k, (Value.slice y.2.1 y.1.out.2.1.length y.2.2).ownBlock = some k -> k ≠ x) /\ (∀ k, (Value.slice sa j sc).ownBlock = some k -> k ≠ x)) :=
    fair_start HB1.out.1 HB1.out.2.1 HB1.out.2.2 hN hB hW
   clear hW
   have HQ : Hid (qs.map (·.1) = ps.take j) := hqs
   clear hqs hB hBw
   go_wp2
   generalize ((wr.alloc (.cells #[.int .i64 0, .int .i64 0, .int .i64 0, .int .i64 0, .int .i64 0] 74)).alloc (.cells #[.int .i64 0, .int .i64 0, .int .i64 0, .int .i64 0, .int .i64 0] 74)) = w4 at *
   generalize wr.heap.size = ub at *
   go_loopw [20] (fun t wr => ∃ (n : Nat) (b : PRm) (Jb : List JM) (vb : Value), t = .int .i64 n /\ n <= R /\ Hid (FrAt w w4 wr rb (1 + q) w1.heap.size ub (ub + 1) j vj ps b Jb vb /\ ArrAt wr ub (usOf b) /\ ArrAt wr (ub + 1) (dnOf b))) (fun t _ => R - (intOf t).toNat)
   case atStart => exact ⟨0, _, _, _, rfl, Nat.zero_le _, HF0.out.1, HF0.out.2.1, HF0.out.2.2.1⟩
   case round =>
    obtain ⟨n, b, Jb, vb, rfl, hn, HF⟩ := hrel
    by_cases hlt2 : n < R
    ·have hni : (n : Int) < (R : Int) := by omega
     have hT := HF.out.1.tick (by omega)
     go_wp2_with (first
      | (go_at_call 23; refine (hPr _).mono ?_; rintro e wx ⟨rfl, h9⟩; cases h9)
      | (go_at_call 33; go_loud (refine hT.mono ?_; rintro e w5 ⟨ln, la, lc, rfl, hln, HC⟩; have hlni : ¬ (ln : Int) > 1 := (by omega))))
     obtain ⟨c, Jc, vc, hFc, hRb, hu5, ho5⟩ := HC.out
     have HP : Hid (RelB b c /\ ∃ l, PN j b l) := ⟨hRb, HF.out.1.num⟩
     have HI0 : Hid (FrAt w w4 w5 rb (1 + q) w1.heap.size ub (ub + 1) j vj ps c Jc vc /\ ArrAt w5 ub (usOf b) /\ ArrAt w5 (ub + 1) (dnOf b)) := ⟨hFc, HF.out.2.1.same hu5, HF.out.2.2.same ho5⟩
     clear hFc hRb hu5 ho5 HC HF hT
     go_loopw [23, 24, 25] (fun s23 s24 t wr => ∃ (x L H : Nat), s23 = .int .i64 L /\ s24 = .int .i64 H /\ t = .int .i64 x /\ x <= j /\ H <= 3000 /\ L <= 1000000 /\ Hid (FrAt w w4 wr rb (1 + q) w1.heap.size ub (ub + 1) j vj ps c Jc vc /\ ArrAt wr ub (fun i => if i < x then usOf c i else usOf b i) /\ ArrAt wr (ub + 1) (fun i => if i < x then dnOf c i else dnOf b i) /\ (L = 1000000 ∨ ∃ (i : Nat) (Q : PJ), c.js[i]? = some Q /\ Q.done = false /\ L = Q.m.used) /\ (H = 0 ∨ ∃ (i : Nat) (Q : PJ), c.js[i]? = some Q /\ Q.done = false /\ H = Q.m.used))) (fun _ _ t _ => j - (intOf t).toNat)
     case atStart => exact ⟨0, 1000000, 0, rfl, rfl, rfl, Nat.zero_le _, Nat.zero_le _, Nat.le_refl _, HI0.out.1, HI0.out.2.1.congr (fun i _ => by simp), HI0.out.2.2.congr (fun i _ => by simp), .inl rfl, .inl rfl⟩
     case round =>
      obtain ⟨x, L, H, rfl, rfl, rfl, hx, hH, hL, HI⟩ := hrel
      by_cases hxl : x < j
      ·obtain ⟨Q, p, g, ra, rc, uo, od, hQ, hsa, hS⟩ := fair_step HI.out.1 HP.out.2 HP.out.1 HI.out.2.1 HI.out.2.2.1 HF0.out.2.2.2.1 HF0.out.2.2.2.2 HQ.out hN hxl
       subst hsa
       cases hd : Q.done with
       | true =>
        have hdd : (if Q.done then 1 else 0) = (1 : Nat) := by rw [hd]; rfl
        have hJob := HI.out.1.job (by omega) hQ
        simp only [hd, if_true] at hJob
        have HSt : Hid (StepAt wr g ub (ub + 1) x ra rc uo od Q p) := hS
        obtain ⟨_, _, _, _, _, _, _, hle, hdle, hule, _, hole, ho60, hrcl, _, hno, hu3, _⟩ := hS
        rw [hdd] at hdle
        clear hno
        have HLa : Hid (∀ (w6 : World) (oa : Option Addr) (oc2 : Nat), Below wr.heap.size wr w6 -> OutAt w6 (.agg #[.int .i64 (((Q.m.over.getD 0 : Nat) : Int) : Int), .slice oa Q.m.out.length oc2, .int .i64 (Q.m.used : Nat)]) (Q.m.over.getD 0, Q.m.out, Q.m.used) -> LookAt wr (w6.alloc (.cells #[.int .i64 (((Q.m.over.getD 0 : Nat) : Int) : Int), .slice oa Q.m.out.length oc2, .int .i64 (Q.m.used : Nat)] 39)) w6.heap.size (Q.m.over.getD 0) Q.m.out.length Q.m.used oa oc2 Q.m.out) := fun w6 oa oc2 h5 h6 => look_new h5 h6
        have HFst : Hid (∀ (W : World) (oa : Option Addr) (oc2 : Nat), Below wr.heap.size wr W -> IntsC W (.slice oa Q.m.out.length oc2) Q.m.out -> Calls Tryz.prog 36 #[.slice oa Q.m.out.length oc2, .slice ra Q.m.out.length rc] W fun e w' => e = .returned (.bool true) /\ Below W.heap.size W w') := fun W oa oc2 h5 h6 => (HSt.out.next h5).first h6
        have HSm : Hid (∀ (W : World) (oa : Option Addr) (oc2 : Nat), Below wr.heap.size wr W -> IntsC W (.slice oa Q.m.out.length oc2) Q.m.out -> Calls Tryz.prog 26 #[.agg #[.int .i64 ((Q.m.over.getD 0 : Nat) : Int), .slice oa Q.m.out.length oc2, .int .i64 (Q.m.used : Nat)], .agg #[.int .i64 (p.out.1 : Nat), .slice ra p.out.2.1.length rc, .int .i64 (p.out.2.2 : Nat)]] W fun e w' => ∃ r : Bool, e = .returned (.bool r) /\ (Q.done = true -> r = true) /\ Below W.heap.size W w') := fun W oa oc2 h5 h6 => by have := (HSt.out.next h5).alike h6; exact this
        have HNx : Hid (∀ W, Below wr.heap.size wr W -> FrAt w w4 ((W.setCell ⟨ub, x, none⟩ (.int .i64 (Q.m.used : Nat))).setCell ⟨ub + 1, x, none⟩ (.int .i64 ((1 : Nat) : Int))) rb (1 + q) w1.heap.size ub (ub + 1) j vj ps c Jc vc /\ ArrAt ((W.setCell ⟨ub, x, none⟩ (.int .i64 (Q.m.used : Nat))).setCell ⟨ub + 1, x, none⟩ (.int .i64 ((1 : Nat) : Int))) ub (fun i => if i < x + 1 then usOf c i else usOf b i) /\ ArrAt ((W.setCell ⟨ub, x, none⟩ (.int .i64 (Q.m.used : Nat))).setCell ⟨ub + 1, x, none⟩ (.int .i64 ((1 : Nat) : Int))) (ub + 1) (fun i => if i < x + 1 then dnOf c i else dnOf b i)) := fun W h5 => fair_next HI.out.1 HI.out.2.1 HI.out.2.2.1 h5 hQ (by omega) (by omega) hdd
        have HCs : Hid (∀ W, Below wr.heap.size wr W -> (W.cell? ⟨g, x * 3, none⟩ = some (.int .i64 (p.out.1 : Nat)) /\ W.cell? ⟨g, x * 3 + 1, none⟩ = some (.slice ra p.out.2.1.length rc) /\ W.cell? ⟨g, x * 3 + 2, none⟩ = some (.int .i64 (p.out.2.2 : Nat)) /\ W.cell? ⟨ub, x, none⟩ = some (.int .i64 (uo : Nat)) /\ W.cell? ⟨ub + 1, x, none⟩ = some (.int .i64 (od : Nat)) /\ W.frozen? ⟨ub, x, none⟩ = false /\ W.frozen? ⟨ub + 1, x, none⟩ = false)) := fun W h5 => (by have h6 := HSt.out.next h5; exact ⟨h6.c0, h6.c1, h6.c2, h6.u, h6.d, h6.uf, h6.df⟩)
        have HLH : Hid ((L = 1000000 ∨ ∃ (i : Nat) (Q : PJ), c.js[i]? = some Q /\ Q.done = false /\ L = Q.m.used) /\ (H = 0 ∨ ∃ (i : Nat) (Q : PJ), c.js[i]? = some Q /\ Q.done = false /\ H = Q.m.used)) := HI.out.2.2.2
        have HUl : Hid (ub + 1 < wr.heap.size) := Nat.lt_of_lt_of_le HI.out.1.ulo.2.2.2 HI.out.1.siz
        clear HI HSt
        generalize Q.m.over.getD 0 = oc at *
        generalize Q.m.out.length = ol at *
        generalize Q.m.used = ou at *
        generalize p.out.1 = pc at *
        generalize p.out.2.1.length = pl at *
        generalize p.out.2.2 = pu at *
        have hxi : (x : Int) < (j : Int) := by omega
        have hx5 : (x : Int) < 5 := by omega
        have hx0 : (0 : Int) <= (x : Int) := by omega
        have d1 : decide ((ou : Int) < (uo : Int)) = false := decide_eq_false (by omega)
        have d2 : decide ((1 : Int) < (od : Int)) = false := decide_eq_false (by omega)
        have d3 : decide ((ou : Int) > (pu : Int)) = false := decide_eq_false (by omega)
        have d4 : decide ((ol : Int) > (pl : Int)) = false := decide_eq_false (by omega)
        go_wp2_with (go_at_call 35; go_loud (refine hJob.mono ?_; rintro e w6 ⟨oa, oc2, rfl, hoc, HO6, hb6⟩; have HL5 := HLa.out w6 oa oc2 hb6 HO6.out; have hfar := Nat.lt_of_lt_of_le HUl.out hb6.size))
        clear hJob HLa HO6 hb6
        generalize (w6.alloc (.cells #[.int .i64 (oc : Nat), .slice oa ol oc2, .int .i64 (ou : Nat)] 39)) = W5 at *
        generalize w6.heap.size = bx at *
        obtain ⟨c0, c1, c2, cu, cd, fu, fd⟩ := HCs.out W5 HL5.bel
        have k0 : W5.cell? ⟨bx, 0, none⟩ = some (.int .i64 (oc : Nat)) := HL5.k0
        have k1 := HL5.k1
        have k2 := HL5.k2
        go_quiet (fail)
        have HL6 : Hid (LookAt wr (W5.drewN nq) bx oc ol ou oa oc2 Q.m.out) := HL5.next (below_drewN _ (Below.refl _ _))
        clear c0 c1 c2 cu cd fu fd k0 k1 k2 HL5 d1 d2 d3 d4
        generalize W5.drewN nq = W6 at *
        have hor : (ol : Int) <= (rc : Int) := by omega
        have HS0 : Hid (W6.drew.cell? ⟨bx, 0, none⟩ = some (.int .i64 (oc : Nat)) /\ W6.drew.cell? ⟨bx, 1, none⟩ = some (.slice oa ol oc2) /\ W6.drew.cell? ⟨bx, 2, none⟩ = some (.int .i64 (ou : Nat)) /\ W6.drew.cell? ⟨g, x * 3, none⟩ = some (.int .i64 (pc : Nat)) /\ W6.drew.cell? ⟨g, x * 3 + 1, none⟩ = some (.slice ra pl rc) /\ W6.drew.cell? ⟨g, x * 3 + 2, none⟩ = some (.int .i64 (pu : Nat))) := ⟨HL6.out.k0, HL6.out.k1, HL6.out.k2, (HCs.out W6 HL6.out.bel).1, (HCs.out W6 HL6.out.bel).2.1, (HCs.out W6 HL6.out.bel).2.2.1⟩
        have HL6d : Hid (LookAt wr W6.drew bx oc ol ou oa oc2 Q.m.out) := HL6.out.next (Below.refl _ _).drew
        have hFs := HFst.out W6.drew oa oc2 HL6d.out.bel HL6d.out.ints
        go_wp2
        go_region_held3 (fun W => W.cell? ⟨bx, 0, none⟩ = some (.int .i64 (oc : Nat)) /\ W.cell? ⟨bx, 1, none⟩ = some (.slice oa ol oc2) /\ W.cell? ⟨bx, 2, none⟩ = some (.int .i64 (ou : Nat)) /\ W.cell? ⟨g, x * 3, none⟩ = some (.int .i64 (pc : Nat)) /\ W.cell? ⟨g, x * 3 + 1, none⟩ = some (.slice ra pl rc) /\ W.cell? ⟨g, x * 3 + 2, none⟩ = some (.int .i64 (pu : Nat))) (first | exact HS0.out | exact HS7.out) ((go_at_call 36; refine hFs.mono ?_; rintro e w7 ⟨rfl, hb7⟩; have HL7 : Hid (LookAt wr w7 bx oc ol ou oa oc2 Q.m.out) := HL6d.out.next hb7; have HS7 : Hid (w7.cell? ⟨bx, 0, none⟩ = some (.int .i64 (oc : Nat)) /\ w7.cell? ⟨bx, 1, none⟩ = some (.slice oa ol oc2) /\ w7.cell? ⟨bx, 2, none⟩ = some (.int .i64 (ou : Nat)) /\ w7.cell? ⟨g, x * 3, none⟩ = some (.int .i64 (pc : Nat)) /\ w7.cell? ⟨g, x * 3 + 1, none⟩ = some (.slice ra pl rc) /\ w7.cell? ⟨g, x * 3 + 2, none⟩ = some (.int .i64 (pu : Nat))) := ⟨HL7.out.k0, HL7.out.k1, HL7.out.k2, (HCs.out w7 HL7.out.bel).1, (HCs.out w7 HL7.out.bel).2.1, (HCs.out w7 HL7.out.bel).2.2.1⟩))
        have HS7d : Hid (w7.drew.cell? ⟨bx, 0, none⟩ = some (.int .i64 (oc : Nat)) /\ w7.drew.cell? ⟨bx, 1, none⟩ = some (.slice oa ol oc2) /\ w7.drew.cell? ⟨bx, 2, none⟩ = some (.int .i64 (ou : Nat)) /\ w7.drew.cell? ⟨g, x * 3, none⟩ = some (.int .i64 (pc : Nat)) /\ w7.drew.cell? ⟨g, x * 3 + 1, none⟩ = some (.slice ra pl rc) /\ w7.drew.cell? ⟨g, x * 3 + 2, none⟩ = some (.int .i64 (pu : Nat))) := HS7.out
        have HL7d : Hid (LookAt wr w7.drew bx oc ol ou oa oc2 Q.m.out) := HL7.out.next (Below.refl _ _).drew
        have hSs := HSm.out w7.drew oa oc2 HL7d.out.bel HL7d.out.ints
        clear HS0 HS7 HL6d HL7 hFs HL6
        go_wp2
        go_region_held3 (fun W => W.cell? ⟨bx, 0, none⟩ = some (.int .i64 (oc : Nat)) /\ W.cell? ⟨bx, 1, none⟩ = some (.slice oa ol oc2) /\ W.cell? ⟨bx, 2, none⟩ = some (.int .i64 (ou : Nat)) /\ W.cell? ⟨g, x * 3, none⟩ = some (.int .i64 (pc : Nat)) /\ W.cell? ⟨g, x * 3 + 1, none⟩ = some (.slice ra pl rc) /\ W.cell? ⟨g, x * 3 + 2, none⟩ = some (.int .i64 (pu : Nat))) (first | exact HS7d.out | exact HS8.out) ((go_at_call 26; refine hSs.mono ?_; rintro e w8 ⟨r, rfl, hr, hb8⟩; have HL8 : Hid (LookAt wr w8 bx oc ol ou oa oc2 Q.m.out) := HL7d.out.next hb8; have HS8 : Hid (w8.cell? ⟨bx, 0, none⟩ = some (.int .i64 (oc : Nat)) /\ w8.cell? ⟨bx, 1, none⟩ = some (.slice oa ol oc2) /\ w8.cell? ⟨bx, 2, none⟩ = some (.int .i64 (ou : Nat)) /\ w8.cell? ⟨g, x * 3, none⟩ = some (.int .i64 (pc : Nat)) /\ w8.cell? ⟨g, x * 3 + 1, none⟩ = some (.slice ra pl rc) /\ w8.cell? ⟨g, x * 3 + 2, none⟩ = some (.int .i64 (pu : Nat))) := ⟨HL8.out.k0, HL8.out.k1, HL8.out.k2, (HCs.out w8 HL8.out.bel).1, (HCs.out w8 HL8.out.bel).2.1, (HCs.out w8 HL8.out.bel).2.2.1⟩))
        obtain rfl := hr hd
        obtain ⟨_, _, _, cu, cd, fu, fd⟩ := HCs.out w8 HL8.out.bel
        have k0 : w8.cell? ⟨bx, 0, none⟩ = some (.int .i64 (oc : Nat)) := HL8.out.k0
        have k2 := HL8.out.k2
        have n1 : bx ≠ ub := by omega
        have n2 : bx ≠ ub + 1 := by omega
        have e1 : (w8.setCell ⟨ub, x, none⟩ (.int .i64 (ou : Nat))).cell? ⟨ub + 1, x, none⟩ = some (.int .i64 (od : Nat)) := by rw [World.cell?_setCell_other _ _ _ _ (by intro e; cases e)]; exact cd
        have e2 : (w8.setCell ⟨ub, x, none⟩ (.int .i64 (ou : Nat))).frozen? ⟨ub + 1, x, none⟩ = false := by rw [World.frozen?_setCell]; exact fd
        have HN8 := HNx.out w8 HL8.out.bel
        go_wp2
        go_roundw
        case rel => exact ⟨x + 1, L, H, rfl, rfl, by go_num, by omega, hH, hL, HN8.1, HN8.2.1, HN8.2.2, HLH.out⟩
        case measure => simp [intOf]; omega
       | false =>
        have hdd : (if Q.done then 1 else 0) = (0 : Nat) := by rw [hd]; rfl
        have hJob := HI.out.1.job (by omega) hQ
        simp only [hd, Bool.false_eq_true, if_false] at hJob
        have HSt : Hid (StepAt wr g ub (ub + 1) x ra rc uo od Q p) := hS
        obtain ⟨_, _, _, _, _, _, _, hle, hdle, hule, _, hole, ho60, hrcl, _, hno, hu3, _⟩ := hS
        rw [hdd] at hdle
        rw [hno hd] at hJob
        have hcode := hno hd
        clear hno
        have HLa : Hid (∀ (w6 : World) (oa : Option Addr) (oc2 : Nat), Below wr.heap.size wr w6 -> OutAt w6 (.agg #[.int .i64 0, .slice oa Q.m.out.length oc2, .int .i64 (Q.m.used : Nat)]) (0, Q.m.out, Q.m.used) -> LookAt wr (w6.alloc (.cells #[.int .i64 0, .slice oa Q.m.out.length oc2, .int .i64 (Q.m.used : Nat)] 39)) w6.heap.size (0) Q.m.out.length Q.m.used oa oc2 Q.m.out) := fun w6 oa oc2 h5 h6 => look_new h5 h6
        have HFst : Hid (∀ (W : World) (oa : Option Addr) (oc2 : Nat), Below wr.heap.size wr W -> IntsC W (.slice oa Q.m.out.length oc2) Q.m.out -> Calls Tryz.prog 36 #[.slice oa Q.m.out.length oc2, .slice ra Q.m.out.length rc] W fun e w' => e = .returned (.bool true) /\ Below W.heap.size W w') := fun W oa oc2 h5 h6 => (HSt.out.next h5).first h6
        have HSm : Hid (∀ (W : World) (oa : Option Addr) (oc2 : Nat), Below wr.heap.size wr W -> IntsC W (.slice oa Q.m.out.length oc2) Q.m.out -> Calls Tryz.prog 26 #[.agg #[.int .i64 0, .slice oa Q.m.out.length oc2, .int .i64 (Q.m.used : Nat)], .agg #[.int .i64 (p.out.1 : Nat), .slice ra p.out.2.1.length rc, .int .i64 (p.out.2.2 : Nat)]] W fun e w' => ∃ r : Bool, e = .returned (.bool r) /\ (Q.done = true -> r = true) /\ Below W.heap.size W w') := fun W oa oc2 h5 h6 => by have := (HSt.out.next h5).alike h6; rw [hcode] at this; exact this
        have HNx : Hid (∀ W, Below wr.heap.size wr W -> FrAt w w4 ((W.setCell ⟨ub, x, none⟩ (.int .i64 (Q.m.used : Nat))).setCell ⟨ub + 1, x, none⟩ (.int .i64 ((0 : Nat) : Int))) rb (1 + q) w1.heap.size ub (ub + 1) j vj ps c Jc vc /\ ArrAt ((W.setCell ⟨ub, x, none⟩ (.int .i64 (Q.m.used : Nat))).setCell ⟨ub + 1, x, none⟩ (.int .i64 ((0 : Nat) : Int))) ub (fun i => if i < x + 1 then usOf c i else usOf b i) /\ ArrAt ((W.setCell ⟨ub, x, none⟩ (.int .i64 (Q.m.used : Nat))).setCell ⟨ub + 1, x, none⟩ (.int .i64 ((0 : Nat) : Int))) (ub + 1) (fun i => if i < x + 1 then dnOf c i else dnOf b i)) := fun W h5 => fair_next HI.out.1 HI.out.2.1 HI.out.2.2.1 h5 hQ (by omega) (by omega) hdd
        have HCs : Hid (∀ W, Below wr.heap.size wr W -> (W.cell? ⟨g, x * 3, none⟩ = some (.int .i64 (p.out.1 : Nat)) /\ W.cell? ⟨g, x * 3 + 1, none⟩ = some (.slice ra p.out.2.1.length rc) /\ W.cell? ⟨g, x * 3 + 2, none⟩ = some (.int .i64 (p.out.2.2 : Nat)) /\ W.cell? ⟨ub, x, none⟩ = some (.int .i64 (uo : Nat)) /\ W.cell? ⟨ub + 1, x, none⟩ = some (.int .i64 (od : Nat)) /\ W.frozen? ⟨ub, x, none⟩ = false /\ W.frozen? ⟨ub + 1, x, none⟩ = false)) := fun W h5 => (by have h6 := HSt.out.next h5; exact ⟨h6.c0, h6.c1, h6.c2, h6.u, h6.d, h6.uf, h6.df⟩)
        have HLH : Hid ((L = 1000000 ∨ ∃ (i : Nat) (Q : PJ), c.js[i]? = some Q /\ Q.done = false /\ L = Q.m.used) /\ (H = 0 ∨ ∃ (i : Nat) (Q : PJ), c.js[i]? = some Q /\ Q.done = false /\ H = Q.m.used)) := HI.out.2.2.2
        have HLM : Hid ((min L Q.m.used = 1000000 ∨ ∃ (i : Nat) (P : PJ), c.js[i]? = some P /\ P.done = false /\ min L Q.m.used = P.m.used) /\ (max H Q.m.used = 0 ∨ ∃ (i : Nat) (P : PJ), c.js[i]? = some P /\ P.done = false /\ max H Q.m.used = P.m.used)) := fair_low hQ hd HLH.out.1 HLH.out.2
        have HUl : Hid (ub + 1 < wr.heap.size) := Nat.lt_of_lt_of_le HI.out.1.ulo.2.2.2 HI.out.1.siz
        clear HI HSt HLH
        clear hcode
        generalize Q.m.out.length = ol at *
        generalize Q.m.used = ou at *
        generalize p.out.1 = pc at *
        generalize p.out.2.1.length = pl at *
        generalize p.out.2.2 = pu at *
        have hxi : (x : Int) < (j : Int) := by omega
        have hx5 : (x : Int) < 5 := by omega
        have hx0 : (0 : Int) <= (x : Int) := by omega
        have d1 : decide ((ou : Int) < (uo : Int)) = false := decide_eq_false (by omega)
        have d2 : decide ((0 : Int) < (od : Int)) = false := decide_eq_false (by omega)
        have d3 : decide ((ou : Int) > (pu : Int)) = false := decide_eq_false (by omega)
        have d4 : decide ((ol : Int) > (pl : Int)) = false := decide_eq_false (by omega)
        go_wp2_with (go_at_call 35; go_loud (refine hJob.mono ?_; rintro e w6 ⟨oa, oc2, rfl, hoc, HO6, hb6⟩; have HL5 := HLa.out w6 oa oc2 hb6 HO6.out; have hfar := Nat.lt_of_lt_of_le HUl.out hb6.size))
        clear hJob HLa HO6 hb6
        generalize (w6.alloc (.cells #[.int .i64 0, .slice oa ol oc2, .int .i64 (ou : Nat)] 39)) = W5 at *
        generalize w6.heap.size = bx at *
        obtain ⟨c0, c1, c2, cu, cd, fu, fd⟩ := HCs.out W5 HL5.bel
        have k0 : W5.cell? ⟨bx, 0, none⟩ = some (.int .i64 0) := HL5.k0
        have k1 := HL5.k1
        have k2 := HL5.k2
        go_quiet (fail)
        have HL6 : Hid (LookAt wr (W5.drewN nq) bx 0 ol ou oa oc2 Q.m.out) := HL5.next (below_drewN _ (Below.refl _ _))
        clear c0 c1 c2 cu cd fu fd k0 k1 k2 HL5 d1 d2 d3 d4
        generalize W5.drewN nq = W6 at *
        have hor : (ol : Int) <= (rc : Int) := by omega
        have HS0 : Hid (W6.drew.cell? ⟨bx, 0, none⟩ = some (.int .i64 0) /\ W6.drew.cell? ⟨bx, 1, none⟩ = some (.slice oa ol oc2) /\ W6.drew.cell? ⟨bx, 2, none⟩ = some (.int .i64 (ou : Nat)) /\ W6.drew.cell? ⟨g, x * 3, none⟩ = some (.int .i64 (pc : Nat)) /\ W6.drew.cell? ⟨g, x * 3 + 1, none⟩ = some (.slice ra pl rc) /\ W6.drew.cell? ⟨g, x * 3 + 2, none⟩ = some (.int .i64 (pu : Nat))) := ⟨HL6.out.k0, HL6.out.k1, HL6.out.k2, (HCs.out W6 HL6.out.bel).1, (HCs.out W6 HL6.out.bel).2.1, (HCs.out W6 HL6.out.bel).2.2.1⟩
        have HL6d : Hid (LookAt wr W6.drew bx 0 ol ou oa oc2 Q.m.out) := HL6.out.next (Below.refl _ _).drew
        have hFs := HFst.out W6.drew oa oc2 HL6d.out.bel HL6d.out.ints
        go_wp2
        go_region_held3 (fun W => W.cell? ⟨bx, 0, none⟩ = some (.int .i64 0) /\ W.cell? ⟨bx, 1, none⟩ = some (.slice oa ol oc2) /\ W.cell? ⟨bx, 2, none⟩ = some (.int .i64 (ou : Nat)) /\ W.cell? ⟨g, x * 3, none⟩ = some (.int .i64 (pc : Nat)) /\ W.cell? ⟨g, x * 3 + 1, none⟩ = some (.slice ra pl rc) /\ W.cell? ⟨g, x * 3 + 2, none⟩ = some (.int .i64 (pu : Nat))) (first | exact HS0.out | exact HS7.out) ((go_at_call 36; refine hFs.mono ?_; rintro e w7 ⟨rfl, hb7⟩; have HL7 : Hid (LookAt wr w7 bx 0 ol ou oa oc2 Q.m.out) := HL6d.out.next hb7; have HS7 : Hid (w7.cell? ⟨bx, 0, none⟩ = some (.int .i64 0) /\ w7.cell? ⟨bx, 1, none⟩ = some (.slice oa ol oc2) /\ w7.cell? ⟨bx, 2, none⟩ = some (.int .i64 (ou : Nat)) /\ w7.cell? ⟨g, x * 3, none⟩ = some (.int .i64 (pc : Nat)) /\ w7.cell? ⟨g, x * 3 + 1, none⟩ = some (.slice ra pl rc) /\ w7.cell? ⟨g, x * 3 + 2, none⟩ = some (.int .i64 (pu : Nat))) := ⟨HL7.out.k0, HL7.out.k1, HL7.out.k2, (HCs.out w7 HL7.out.bel).1, (HCs.out w7 HL7.out.bel).2.1, (HCs.out w7 HL7.out.bel).2.2.1⟩))
        have HS7d : Hid (w7.drew.cell? ⟨bx, 0, none⟩ = some (.int .i64 0) /\ w7.drew.cell? ⟨bx, 1, none⟩ = some (.slice oa ol oc2) /\ w7.drew.cell? ⟨bx, 2, none⟩ = some (.int .i64 (ou : Nat)) /\ w7.drew.cell? ⟨g, x * 3, none⟩ = some (.int .i64 (pc : Nat)) /\ w7.drew.cell? ⟨g, x * 3 + 1, none⟩ = some (.slice ra pl rc) /\ w7.drew.cell? ⟨g, x * 3 + 2, none⟩ = some (.int .i64 (pu : Nat))) := HS7.out
        have HL7d : Hid (LookAt wr w7.drew bx 0 ol ou oa oc2 Q.m.out) := HL7.out.next (Below.refl _ _).drew
        have hSs := HSm.out w7.drew oa oc2 HL7d.out.bel HL7d.out.ints
        clear HS0 HS7 HL6d HL7 hFs HL6
        go_wp2
        go_region_held3 (fun W => W.cell? ⟨bx, 0, none⟩ = some (.int .i64 0) /\ W.cell? ⟨bx, 1, none⟩ = some (.slice oa ol oc2) /\ W.cell? ⟨bx, 2, none⟩ = some (.int .i64 (ou : Nat)) /\ W.cell? ⟨g, x * 3, none⟩ = some (.int .i64 (pc : Nat)) /\ W.cell? ⟨g, x * 3 + 1, none⟩ = some (.slice ra pl rc) /\ W.cell? ⟨g, x * 3 + 2, none⟩ = some (.int .i64 (pu : Nat))) (first | exact HS7d.out | exact HS8.out) ((go_at_call 26; refine hSs.mono ?_; rintro e w8 ⟨r, rfl, hr, hb8⟩; have HL8 : Hid (LookAt wr w8 bx 0 ol ou oa oc2 Q.m.out) := HL7d.out.next hb8; have HS8 : Hid (w8.cell? ⟨bx, 0, none⟩ = some (.int .i64 0) /\ w8.cell? ⟨bx, 1, none⟩ = some (.slice oa ol oc2) /\ w8.cell? ⟨bx, 2, none⟩ = some (.int .i64 (ou : Nat)) /\ w8.cell? ⟨g, x * 3, none⟩ = some (.int .i64 (pc : Nat)) /\ w8.cell? ⟨g, x * 3 + 1, none⟩ = some (.slice ra pl rc) /\ w8.cell? ⟨g, x * 3 + 2, none⟩ = some (.int .i64 (pu : Nat))) := ⟨HL8.out.k0, HL8.out.k1, HL8.out.k2, (HCs.out w8 HL8.out.bel).1, (HCs.out w8 HL8.out.bel).2.1, (HCs.out w8 HL8.out.bel).2.2.1⟩))
        obtain ⟨_, _, _, cu, cd, fu, fd⟩ := HCs.out w8 HL8.out.bel
        have k0 : w8.cell? ⟨bx, 0, none⟩ = some (.int .i64 0) := HL8.out.k0
        have k2 := HL8.out.k2
        have n1 : bx ≠ ub := by omega
        have n2 : bx ≠ ub + 1 := by omega
        have e1 : (w8.setCell ⟨ub, x, none⟩ (.int .i64 (ou : Nat))).cell? ⟨ub + 1, x, none⟩ = some (.int .i64 (od : Nat)) := by rw [World.cell?_setCell_other _ _ _ _ (by intro e; cases e)]; exact cd
        have e2 : (w8.setCell ⟨ub, x, none⟩ (.int .i64 (ou : Nat))).frozen? ⟨ub + 1, x, none⟩ = false := by rw [World.frozen?_setCell]; exact fd
        have e3 : ((w8.setCell ⟨ub, x, none⟩ (.int .i64 (ou : Nat))).setCell ⟨ub + 1, x, none⟩ (.int .i64 0)).cell? ⟨bx, 2, none⟩ = some (.int .i64 (ou : Nat)) := by rw [World.cell?_setCell_other _ _ _ _ (by intro e; cases e; exact n2 rfl), World.cell?_setCell_other _ _ _ _ (by intro e; cases e; exact n1 rfl)]; exact k2
        have HN8 := HNx.out w8 HL8.out.bel
        go_wp2
        go_roundw
        case rel => exact ⟨x + 1, min L ou, max H ou, congrArg (Value.int .i64) (by omega), congrArg (Value.int .i64) (by omega), by go_num, by omega, by omega, by omega, HN8.1, HN8.2.1, HN8.2.2, HLM.out⟩
        case measure => simp [intOf]; omega
      ·have hxi : ¬ (x : Int) < (j : Int) := by omega
       have hge := fair_end HI.out.1.pf hH HI.out.2.2.2.1 HI.out.2.2.2.2
       have hgi : ¬ (H : Int) > (L : Int) + 1 + (q : Int) := by omega
       have HNF : Hid (FrAt w w4 wr rb (1 + q) w1.heap.size ub (ub + 1) j vj ps c Jc vc /\ ArrAt wr ub (usOf c) /\ ArrAt wr (ub + 1) (dnOf c)) := by
        obtain ⟨lb, hlb⟩ := HP.out.2
        obtain ⟨lc, hlc⟩ := HI.out.1.num
        have hi1 : ∀ i, ¬ i < x -> usOf b i = usOf c i /\ dnOf b i = dnOf c i := fun i hi => by
         obtain ⟨p1, p2⟩ := past hlb (i := i) (by omega)
         obtain ⟨p3, p4⟩ := past hlc (i := i) (by omega)
         rw [p1, p2, p3, p4]
         exact ⟨rfl, rfl⟩
        refine ⟨HI.out.1, HI.out.2.1.congr fun i _ => ?_, HI.out.2.2.1.congr fun i _ => ?_⟩
        ·by_cases h9 : i < x
         ·rw [if_pos h9]
         ·rw [if_neg h9, (hi1 i h9).1]
        ·by_cases h9 : i < x
         ·rw [if_pos h9]
         ·rw [if_neg h9, (hi1 i h9).2]
       clear HI
       go_wp2_with (go_at_call 23; refine (hP _).mono ?_; rintro e wx ⟨rfl, h9⟩; cases h9)
       go_roundw
       case rel => exact ⟨n + 1, c, Jc, vc, by go_num, by omega, HNF.out⟩
       case measure => simp [intOf]; omega
    ·have hni : ¬ (n : Int) < (R : Int) := by omega
     have HBe : Hid (Below w.heap.size w wr) := HF.out.1.bel
     clear HF
     go_wp2_with (go_at_call 23; refine (hPr _).mono ?_; rintro e wx ⟨rfl, h9⟩; cases h9)
     go_ret
     exact ⟨rfl, HBe.out⟩
open Go.ChangeShapes Go.WideShapes Go.ChangeAt
theorem row_lifted (os : Os) (started : os.Started) (H : Type) (enc : TypeId × Value -> H) :
  ReturnsInHanded {} Tryz.checked os 11 .any (Rows.fairSpec.pre6 enc Tryz.prog Tryz.f11 Rows.fairRow.domain false) (Rows.fairSpec.post enc Tryz.prog Tryz.f11 false true false false) := by
 refine returnsInHanded_of_change_sized (C := Tryz.checked) row_own started (by kernel_rfl) Tryz.func11
  (ChangeSpec.witness6 (enc := enc) (C := Tryz.checked) false ⟨#[], #[.slice none 0 0, .int .i64 0, .int .i64 0], []⟩ 8 (by kernel_rfl) (by kernel_rfl) (by kernel_rfl) (by kernel_rfl)) ?_
 intro W base args ds gs before hval0 hW hcnd hsz0 _
 have hsz : (DataW.weightsEach Tryz.prog (Tryz.f11.params.toList ++ Rows.fairSpec.plain.varTypes Tryz.prog) (ds ++ gs)).all (· <= reachBytes) = true := hsz0
 clear hsz0
 have hval : ∀ (j : Nat) t v, Tryz.f11.params[j]? = some t -> args[j]? = some v -> Value.okWide Tryz.prog W .any base t v := hval0
 have hW' := hW
 obtain ⟨p, q, hA0, hV, rfl, hfz, hnd⟩ := hW
 have hA : DataW.TrodAll enc Tryz.prog W 0 (fun _ => true) true Tryz.f11.params.toList args.toList ds p := hA0
 rw [Tryz.params11] at hA hval hsz
 obtain ⟨v0, vs0, d0, ds0, p0, q0, hargs, rfl, rfl, h0, r0⟩ := trodAll_cons hA
 obtain ⟨v1, vs1, d1, ds1, p1, q1, rfl, rfl, rfl, h1, r1⟩ := trodAll_cons r0
 obtain ⟨v2, vs2, d2, ds2, p2, q2, rfl, rfl, rfl, h2, r2⟩ := trodAll_cons r1
 obtain ⟨rfl, rfl, rfl⟩ := trodAll_nil r2
 obtain rfl : args = #[v0, v1, v2] := by cases args; simp_all
 obtain ⟨rfl, rfl⟩ := trodVars_none hV
 obtain ⟨a0, len0, cap0, rfl⟩ := okWide_slice Tryz.underlying60 (hval 0 60 v0 rfl rfl)
 have lt0 : ∀ x ∈ p0, x.block < W.heap.size := by obtain ⟨m, hm⟩ := h0; exact DataW.trod_lt m _ _ _ hm
 obtain ⟨ps, i0⟩ := pups_param h0 (pups_size (j := 0) hsz rfl rfl)
 obtain ⟨a1, rfl, rfl, rfl, w1⟩ := open_int Tryz.underlying3 (hval 1 3 v1 rfl rfl) h1
 obtain ⟨a2, rfl, rfl, rfl, w2⟩ := open_int Tryz.underlying3 (hval 2 3 v2 rfl rfl) h2
 clear hA0 hval0
 obtain ⟨g1, g2⟩ := bounds_i64 w1
 obtain ⟨g3, g4⟩ := bounds_i64 w2
 refine (Fair_any (.slice a0 len0 cap0) ps a1 a2 W i0 g1 g2 g3 g4).mono fun e W' ⟨he, bel⟩ => ?_
 subst he
 exact ⟨_, rfl, _, _, _, [], _, [], hW', trodAll_mk1 (shut_bool Tryz.underlying4 _), (trodAll_cons_mk (Below.trod row_laidOut (by kernel_rfl) (of_decide_eq_true (by kernel_rfl)) h0 bel lt0) (trodAll_cons_mk (shut_int Tryz.underlying3 w1) (trodAll_cons_mk (shut_int Tryz.underlying3 w2) trodAll_mk0))), rfl, bel.frame _, fun h => by cases h⟩
theorem row_over : Rows.fairRow.holds Tryz.pinned (OpenSpec.ofChange Rows.fairSpec) :=
 OpenClaim.holds_of_wide 11 Tryz.f11 rfl rfl rfl rfl rfl rfl rfl ⟨rfl, rfl, rfl, rfl, rfl⟩ rfl rfl rfl rfl rfl (by kernel_rfl) Tryz.func11 (by kernel_rfl)
  (of_decide_eq_true (by kernel_rfl)) (by unfold Func.isWrapper; first | (rw [if_pos (by decide +kernel)]; kernel_rfl) | (rw [if_neg (by decide +kernel)]; exact ⟨rfl, rfl⟩))
  (fun os started H enc _ => row_lifted os started H enc)
theorem fair_holds : Rows.FairSaid :=
 row_over
#print axioms fair_holds
end Go.Proofs.YtklobognaldjpaaGreat
