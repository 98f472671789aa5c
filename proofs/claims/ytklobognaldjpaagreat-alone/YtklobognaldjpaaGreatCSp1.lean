/- What package lecternkeep does: room. Plain: all jobs of a room come to their end. Pupils that came in: out of the reading of an argument. What package lecternkeep does: same, wrap. -/
import Derived.Test.YtklobognaldjpaaGreatCSm1
import Derived.Test.YtklobognaldjpaaGreatCRk1
import Derived.Test.YtklobognaldjpaaGreatRows
import Derived.WalkKit
import Derived.ProofKit
import Derived.OpenShut
import Derived.ShutString
import Derived.ChangeOld
import Derived.ChangeSlices
import Derived.SizedLaws
import Derived.Below
import Derived.Deep.Slices
import Derived.Deep.Strs
import Derived.Test.YtklobognaldjpaaGreatCRm8
set_option maxRecDepth 1000000
set_option maxHeartbeats 4000000
namespace Go.Proofs.YtklobognaldjpaaGreat
open Go.RowKit
structure Pup where
  raw : List Int
  fuel : Int
  inp : List Int
def Pup.f (p : Pup) : Nat := (pickI p.fuel 300).toNat
def Pup.job (p : Pup) (num : Nat) : PJ := jobP (txtOf p.raw) (p.inp.map wrapV) p.f num
theorem pup_f (p : Pup) : pickI p.fuel 300 = (p.f : Nat) ∧ p.f < 300 := by
  have h := pickI_lt p.fuel (n := 300) (by omega)
  unfold Pup.f
  have h2 : 0 ≤ pickI p.fuel 300 := by have := h.2.1; simpa using this
  exact ⟨by omega, h.1⟩
theorem pup_check (p : Pup) : checkP (txtOf p.raw) = (0, 0) := by
  obtain ⟨h1, h2⟩ := lesKs_ok p.raw
  exact check_whole h1 h2
theorem ok_wrap (inp : List Int) : okIn (inp.map wrapV) = true := by
  unfold okIn
  rw [List.all_eq_true]
  intro x hx
  obtain ⟨y, _, rfl⟩ := List.mem_map.1 hx
  have : -2147483648 ≤ wrapV y ∧ wrapV y ≤ 2147483647 := by unfold wrapV Int.bmod; simp only; split <;> omega
  simpa using this
def Pup.out (p : Pup) : Nat × List Int × Nat := outcome (treeOf (txtOf p.raw)) (p.inp.map wrapV) p.f
theorem pup_good (p : Pup) : ∃ mE, (∀ num, GoodJ (p.job num) mE) ∧ mE.over = some p.out.1 ∧ mE.out = p.out.2.1 ∧ mE.used = p.out.2.2 := by
  obtain ⟨mE, h, h1, h2, h3⟩ := start_good (l := txtOf p.raw) (zs := p.inp.map wrapV) (fuel := p.f) (num := 0) (by rw [pup_check]) (by have := (pup_f p).2; omega)
  exact ⟨mE, fun num => ⟨h.rch, h.fin, h.ca, h.us, h.fu, h.wl, h.wk⟩, h1, h2, h3⟩
noncomputable def Pup.endM (p : Pup) : MS := Classical.choose (pup_good p)
theorem endM_ok (p : Pup) : (∀ num, GoodJ (p.job num) p.endM) ∧ p.endM.over = some p.out.1 ∧ p.endM.out = p.out.2.1 ∧ p.endM.used = p.out.2.2 := Classical.choose_spec (pup_good p)
noncomputable def endsOf (ps : List Pup) (i : Nat) : MS := match ps[i]? with
  | some p => p.endM
  | none => m0 ([], 0, 0) []
def pushAll (a : PRm) : List Pup → PRm
  | [] => a
  | p :: r => pushAll (pushP a (p.job (a.js.length + 1))) r
theorem pushAll_snoc (p : Pup) : ∀ (l : List Pup) (a : PRm), pushAll a (l ++ [p]) = pushP (pushAll a l) (p.job ((pushAll a l).js.length + 1))
  | [], a => rfl
  | x :: l, a => by rw [List.cons_append, pushAll, pushAll, pushAll_snoc p l]
theorem pushAll_len : ∀ (l : List Pup) (a : PRm), (pushAll a l).js.length = a.js.length + l.length
  | [], a => rfl
  | x :: l, a => by rw [pushAll, pushAll_len l]; unfold pushP; simp; omega
theorem pushAll_hp : ∀ (l : List Pup) (a : PRm), (pushAll a l).hp.length = a.hp.length + l.length
  | [], a => rfl
  | x :: l, a => by rw [pushAll, pushAll_hp l]; unfold pushP; simp only [upL_len, List.length_append, List.length_cons, List.length_nil]; omega
theorem pushAll_good (ps : List Pup) : ∀ j, j ≤ ps.length → j ≤ 5 → PG (endsOf ps) (pushAll ⟨[], []⟩ (ps.take j))
  | 0, _, _ => by
    rw [List.take_zero]
    exact ⟨(fun i hi => by cases hi), (by simp [pushAll]), (fun i P hi => by simp [pushAll] at hi), (fun i P hi => by simp [pushAll] at hi), (by simp [pushAll]), (by simp [pushAll])⟩
  | j + 1, h1, h2 => by
    have ih := pushAll_good ps j (by omega) (by omega)
    have hl : (pushAll ⟨[], []⟩ (ps.take j)).js.length = j := by rw [pushAll_len, List.length_take]; simp; omega
    have hh : (pushAll ⟨[], []⟩ (ps.take j)).hp.length = j := by rw [pushAll_hp, List.length_take]; simp; omega
    rw [List.take_add_one, List.getElem?_eq_getElem (by omega)]
    show PG _ (pushAll _ (ps.take j ++ [ps[j]]))
    rw [pushAll_snoc]
    refine push_good ih (by omega) (by omega) rfl ?_
    rw [hl]
    have : endsOf ps j = (ps[j]).endM := by unfold endsOf; rw [List.getElem?_eq_getElem (by omega)]
    rw [this]
    exact (endM_ok _).1 _
def PupAt (w : World) (v : Value) (ps : List Pup) : Prop :=
  ∃ a cap, v = .slice a ps.length cap ∧ ps.length ≤ 17592186044416 ∧
    (ps = [] ∨ ∃ b off, a = some ⟨b, off, none⟩ ∧ b < w.heap.size ∧ ∀ i p, ps[i]? = some p → (-9223372036854775808 ≤ p.fuel ∧ p.fuel ≤ 9223372036854775807) ∧ p.inp.length ≤ 17592186044416 ∧
      ∃ vr vi, w.cell? ⟨b, off + i * 3, none⟩ = some vr ∧ w.cell? ⟨b, off + i * 3 + 1, none⟩ = some (.int .i64 p.fuel) ∧ w.cell? ⟨b, off + i * 3 + 2, none⟩ = some vi ∧ IntsAt w vr p.raw ∧ IntsAt w vi p.inp)
theorem row_ints {w : World} {base : Nat} {a : Option Addr} {n cap : Nat} {xs : List Int} (h : w.ownsRow base 3 1 (.slice a n cap) n (xs.map (.int .i64))) (hn : xs.length = n) (hl : n ≤ maxLen) (hok : okIn xs = true) : IntsAt w (.slice a n cap) xs := by
  subst hn
  refine ⟨a, cap, rfl, hl, fun z hz => ?_, ?_⟩
  · unfold okIn at hok
    have := List.all_eq_true.1 hok z hz
    simp at this
    omega
  · by_cases h0 : xs = []
    · exact .inl h0
    · obtain ⟨tb, cap2, e, hb, hlt⟩ := h.form (List.length_pos_iff.2 h0)
      cases e
      refine .inr ⟨tb, 0, rfl, hlt, fun i hi => ?_⟩
      have := h.cellAt i (by simpa using hi)
      rw [Nat.zero_add, this, List.getElem?_map, List.getElem?_eq_getElem hi]
      simp [List.getD, hi]
def slOf (slice : Int) : Nat := 1 + (pickI slice 50).toNat
theorem room_any (v : Value) (ps : List Pup) (slice : Int) (w : World) (h : PupAt w v ps) (h1 : -9223372036854775808 ≤ slice) (h2 : slice ≤ 9223372036854775807) :
    Calls Tryz.prog 32 #[v, .int .i64 slice] w fun e w' => ∃ rb Js vj vv, e = .returned (.pointer (some ⟨rb, 0, none⟩)) ∧ RRep w' rb (slOf slice) vj vv Js (pushAll ⟨[], []⟩ (ps.take 5)) ∧ (∀ b, RFoot rb vj vv Js b → w.heap.size ≤ b) ∧ Below w.heap.size w w' := by
  obtain ⟨q, hq, hql⟩ : ∃ q : Nat, pickI slice 50 = q ∧ q < 50 := ⟨(pickI slice 50).toNat, by have := (pickI_lt slice (n := 50) (by omega)).2.1; simp at this; omega, (pickI_lt slice (n := 50) (by omega)).1⟩
  have hsl : slOf slice = 1 + q := by unfold slOf; rw [hq]; simp
  rw [hsl]
  have hP := fun W => pick_any slice 50 W h1 h2 (by omega) (by omega)
  rw [hq] at hP
  have hN : ∀ W, Calls Tryz.prog 51 #[.int .i64 (1 + (q : Int))] W fun e w' => e = .returned (.tuple #[.pointer (some ⟨W.heap.size, 0, none⟩), .int .i64 0]) ∧ w' = W.alloc (.cells #[.int .i64 ((1 + q : Nat) : Int), .slice none 0 0, .slice none 0 0] 109) := fun W => by
    have := newRoom_any (n := 1 + q) (by omega) (by omega) W
    rw [show (((1 + q : Nat)) : Int) = 1 + (q : Int) by omega] at this ⊢
    exact this
  obtain ⟨a, cap, rfl, hpl, hcs⟩ := h
  clear hq hsl
  go_enter Tryz.func32, Tryz.ntmps32
  go_wp2_with (first
    | (go_at_call 23; refine (hP _).mono ?_; rintro e wp ⟨rfl, h9⟩; cases h9)
    | (go_at_call 51; refine (hN _).mono ?_; rintro e w1 ⟨rfl, h9⟩; cases h9))
  go_loopw [7] (fun t wr => ∃ (j : Nat) (Js : List JM) (vj vv : Value), t = .int .i64 j ∧ j ≤ ps.length ∧ j ≤ 5 ∧ RRep wr w.heap.size (1 + q) vj vv Js (pushAll ⟨[], []⟩ (ps.take j)) ∧ (∀ b, RFoot w.heap.size vj vv Js b → w.heap.size ≤ b) ∧ Below w.heap.size w wr) (fun t _ => 5 - (intOf t).toNat)
  case atStart =>
    refine ⟨0, [], .slice none 0 0, .slice none 0 0, rfl, Nat.zero_le _, Nat.zero_le _, ⟨room_new w (1 + q), rfl⟩, fun b hb => ?_, (Below.refl _ _).alloc (Nat.le_refl _) _⟩
    rcases hb with e | e | e | ⟨J, hJ, _⟩
    · omega
    · simp [Value.ownBlock] at e
    · simp [Value.ownBlock] at e
    · cases hJ
  case round =>
    obtain ⟨j, Js, vj, vv, rfl, hj1, hj2, hR, hfo, hB⟩ := hrel
    by_cases hlt : j < ps.length
    · have hji : (j : Int) < (ps.length : Int) := by omega
      by_cases h5 : j < 5
      · have h5i : (j : Int) < 5 := by omega
        rcases hcs with h0 | ⟨pb, off, rfl, hpb, hcs⟩
        · rw [h0] at hlt; simp at hlt
        obtain ⟨⟨f1, f2⟩, hil, vr, vi, d0, d1, d2, i1, i2⟩ := hcs j ps[j] (List.getElem?_eq_getElem hlt)
        have k0 : wr.cell? ⟨pb, off + j * 3, none⟩ = some vr := by rw [hB.cell (p := ⟨pb, off + j * 3, none⟩) hpb]; exact d0
        have k1 : wr.cell? ⟨pb, off + j * 3 + 1, none⟩ = some (.int .i64 (ps[j]).fuel) := by rw [hB.cell (p := ⟨pb, off + j * 3 + 1, none⟩) hpb]; exact d1
        have k2 : wr.cell? ⟨pb, off + j * 3 + 2, none⟩ = some vi := by rw [hB.cell (p := ⟨pb, off + j * 3 + 2, none⟩) hpb]; exact d2
        obtain ⟨pf1, pf2⟩ := pup_f ps[j]
        have hT := taken_any vr vi (ps[j]).raw (ps[j]).inp (ps[j]).fuel wr (i1.under hB) (i2.under hB) hil f1 f2
        rw [pf1] at hT
        have hlen : (pushAll ⟨[], []⟩ (ps.take j)).js.length = j := by rw [pushAll_len, List.length_take]; simp; omega
        have hg := pushAll_good ps j hj1 hj2
        have hnext : pushP (pushAll ⟨[], []⟩ (ps.take j)) ((ps[j]).job (j + 1)) = pushAll ⟨[], []⟩ (ps.take (j + 1)) := by
          rw [List.take_add_one, List.getElem?_eq_getElem hlt]
          show _ = pushAll _ (ps.take j ++ [ps[j]])
          rw [pushAll_snoc, hlen]
        have HS : Hid (∀ (w2 : World) (oa : Option Addr) (oc : Nat), w2.ownsRow wr.heap.size 3 1 (.slice oa (ps[j]).inp.length oc) (ps[j]).inp.length (((ps[j]).inp.map wrapV).map (.int .i64)) → Below wr.heap.size wr w2 → Calls Tryz.prog 53 #[.pointer (some ⟨w.heap.size, 0, none⟩), .string ⟨(txtOf (ps[j]).raw).toArray⟩, .slice oa (ps[j]).inp.length oc, .int .i64 ((ps[j]).f : Nat)] w2 fun e w3 => e = .returned (.tuple #[.int .i64 ((j : Int) + 1), .int .i64 0, .int .i64 0]) ∧ Hid (∃ Js' vj' vv', RRep w3 w.heap.size (1 + q) vj' vv' Js' (pushAll ⟨[], []⟩ (ps.take (j + 1))) ∧ (∀ b, RFoot w.heap.size vj' vv' Js' b → w.heap.size ≤ b) ∧ Below w.heap.size w w3)) := fun w2 oa oc ho hb => by
          have hi := row_ints ho (by simp) (by unfold maxLen; omega) (ok_wrap _)
          have hs := submit_rep (hR.below hb) hg (by omega) hi (by simp; omega) (by rw [pup_check]) (by omega) (ok_wrap _) (l := txtOf (ps[j]).raw) (fuel := (ps[j]).f)
          rw [hlen] at hs
          refine hs.mono ?_
          rintro e w3 ⟨rfl, Js', vj', vv', r1, r2⟩
          have hb2 := hB.trans (hb.mono hB.size)
          refine ⟨rfl, Js', vj', vv', by rw [← hnext]; exact r1, fun b hb3 => ?_, hb2.trans (below_of_rm r2 hfo hb2.size)⟩
          rcases r2.nw b hb3 with e | e
          · exact hfo b e
          · exact Nat.le_trans hb2.size e
        clear hcs d0 d1 d2 i1 i2 hR hfo hg hnext hlen pf1
        have hjb : j ≤ 5 := hj2
        go_wp2_with (first
          | (go_at_call 34; go_loud (refine hT.mono ?_; rintro e w2 ⟨oa, oc, rfl, ho2, hb2⟩; have HS2 := HS.out w2 oa oc ho2 hb2))
          | (go_at_call 53; go_loud (refine HS2.mono ?_; rintro e w3 ⟨rfl, HX⟩)))
        go_roundw
        case rel =>
          obtain ⟨Js', vj', vv', r1, r2, r3⟩ := HX.out
          exact ⟨j + 1, Js', vj', vv', by go_num, by omega, by omega, r1, r2, r3⟩
        case measure => simp [intOf]; omega
      · have h5i : ¬ (j : Int) < 5 := by omega
        have HX : Hid _ := And.intro hR (And.intro hfo hB)
        have hj5 : j = 5 := by omega
        clear hR hfo hB hcs
        go_wp2
        go_ret
        subst hj5
        exact ⟨w.heap.size, rfl, Js, vj, vv, HX.out.1, HX.out.2.1, HX.out.2.2⟩
    · have hji : ¬ (j : Int) < (ps.length : Int) := by omega
      have HX : Hid _ := And.intro hR (And.intro hfo hB)
      have hj5 : ps.take 5 = ps.take j := by rw [List.take_of_length_le (by omega), List.take_of_length_le (by omega)]
      have HJ : Hid (ps.take 5 = ps.take j) := hj5
      clear hR hfo hB hcs hj5
      go_wp2
      go_ret
      exact ⟨w.heap.size, rfl, Js, vj, vv, by rw [HJ.out]; exact HX.out.1, HX.out.2.1, HX.out.2.2⟩
def wt (P : PJ) : Nat := if P.done then 0 else P.fuel + 1 - P.m.used
def phi (a : PRm) : Nat := (a.js.map wt).sum
theorem sum_set : ∀ (l : List PJ) (i : Nat) (P Q : PJ), l[i]? = some P → ((l.set i Q).map wt).sum + wt P = (l.map wt).sum + wt Q
  | [], i, P, Q, h => by simp at h
  | x :: l, 0, P, Q, h => by
    have : x = P := by simpa using h
    subst this
    simp
    omega
  | x :: l, i + 1, P, Q, h => by
    have := sum_set l i P Q (by simpa using h)
    rw [List.set_cons_succ, List.map_cons, List.map_cons, List.sum_cons, List.sum_cons]
    omega
theorem rd_pg {E : Nat → MS} {a b : PRm} {o : Option Nat} {sl : Nat} (hg : PG E a) (h : Rd sl a b o) : PG E b ∧ (1 ≤ sl → a.hp ≠ [] → phi b + 1 ≤ phi a) ∧ (∀ (i : Nat) (P : PJ), a.js[i]? = some P → ∃ Q : PJ, b.js[i]? = some Q ∧ P.m.used ≤ Q.m.used ∧ (P.done = true → Q = P)) := by
  cases h with
  | none js => exact ⟨hg, fun _ h => absurd rfl h, fun i P hi => ⟨P, hi, Nat.le_refl _, fun _ => rfl⟩⟩
  | @turn js i n t P m' b hi hd hT =>
    have hG := hg.good i P hi
    obtain ⟨n2, m2, b2, hT2, hG2, hu, ho, hn⟩ := good_turn hG sl
    obtain ⟨rfl, _⟩ := trn_one hT2 hT
    refine ⟨rd_good hg hi hG2, fun hs _ => ?_, fun j Q hj => ?_⟩
    · have := sum_set js i P (P.after m2) hi
      have e1 : wt P = P.fuel + 1 - P.m.used := by unfold wt; rw [hd]; rfl
      have h1 := hG.us
      have e2 : wt (P.after m2) + 1 ≤ wt P := by
        rw [e1]
        unfold wt
        show (if m2.over.isSome then 0 else P.fuel + 1 - m2.used) + 1 ≤ _
        cases hc : m2.over.isSome with
        | true => simp; omega
        | false =>
          have h2 : m2.used ≤ P.fuel := hG2.us
          have h3 := hn hc
          simp
          omega
      unfold phi
      show ((js.set i (P.after m2)).map wt).sum + 1 ≤ (js.map wt).sum
      omega
    · show ∃ Q' : PJ, (js.set i (P.after m2))[j]? = some Q' ∧ _
      rw [set_at (List.getElem?_eq_some_iff.1 hi).1]
      by_cases e : i = j
      · subst e
        have hj' : js[i]? = some Q := hj
        rw [hi] at hj'
        cases hj'
        exact ⟨P.after m2, by rw [if_pos rfl], hu, fun hq => by rw [hd] at hq; cases hq⟩
      · exact ⟨Q, by rw [if_neg e]; exact hj, Nat.le_refl _, fun _ => rfl⟩
theorem rds_pg {E : Nat → MS} {sl : Nat} {k : Nat} {a b : PRm} {l : List Nat} (h : Rds sl k a b l) : PG E a → 1 ≤ sl → PG E b ∧ (b.hp = [] ∨ phi b + k ≤ phi a) := by
  induction h with
  | zero a => exact fun hg _ => ⟨hg, .inr (Nat.le_refl _)⟩
  | @succ k a b c l o h1 h2 ih =>
    intro hg hs
    obtain ⟨i1, i2⟩ := ih hg hs
    obtain ⟨g1, g2, _⟩ := rd_pg i1 h2
    refine ⟨g1, ?_⟩
    by_cases hb : b.hp = []
    · obtain ⟨bj, bh⟩ := b
      cases hb
      cases h2
      exact .inl rfl
    · have := g2 hs hb
      rcases i2 with e | e
      · exact absurd e hb
      · exact .inr (by omega)
structure PN (N : Nat) (b : PRm) (l : List Nat) : Prop where
  len : b.js.length = N
  num : ∀ i P, b.js[i]? = some P → P.num = i + 1 ∧ P.done = P.m.over.isSome ∧ P.fuel ≤ 300
  cnt : ∀ i P, b.js[i]? = some P → l.count (i + 1) = if P.done then 1 else 0
  rng : ∀ x ∈ l, 1 ≤ x ∧ x ≤ N
theorem rd_pn {N sl : Nat} {a b : PRm} {l : List Nat} {o : Option Nat} (hn : PN N a l) (h : Rd sl a b o) : PN N b (l ++ o.toList) := by
  cases h with
  | none js => rw [Option.toList_none, List.append_nil]; exact hn
  | @turn js i n t P m' c hi hd hT =>
    have hil := (List.getElem?_eq_some_iff.1 hi).1
    have hN := hn.num i P hi
    have hlen : js.length = N := hn.len
    refine ⟨by show (js.set i (P.after m')).length = N; rw [List.length_set]; exact hlen, fun j Q hj => ?_, fun j Q hj => ?_, fun x hx => ?_⟩
    · have hj' : (js.set i (P.after m'))[j]? = some Q := hj
      rw [set_at hil] at hj'
      by_cases e : i = j
      · subst e
        rw [if_pos rfl] at hj'
        cases hj'
        exact ⟨hN.1, rfl, hN.2.2⟩
      · rw [if_neg e] at hj'; exact hn.num j Q hj'
    · have hj' : (js.set i (P.after m'))[j]? = some Q := hj
      rw [set_at hil] at hj'
      rw [List.count_append]
      by_cases e : i = j
      · subst e
        rw [if_pos rfl] at hj'
        cases hj'
        have h0 := hn.cnt i P hi
        rw [hd, if_neg (by simp)] at h0
        rw [h0, hN.1]
        show 0 + _ = if m'.over.isSome then 1 else 0
        cases m'.over.isSome <;> simp
      · rw [if_neg e] at hj'
        rw [hn.cnt j Q hj', hN.1]
        have : List.count (j + 1) (if m'.over.isSome then some (i + 1) else none).toList = 0 := by
          cases m'.over.isSome
          · simp
          · simp [List.count_cons]; omega
        rw [this]; omega
    · rcases List.mem_append.1 hx with hx | hx
      · exact hn.rng x hx
      · rw [hN.1] at hx
        cases ho : m'.over.isSome with
        | true => rw [ho] at hx; simp at hx; omega
        | false => rw [ho] at hx; simp at hx
theorem rds_pn {N sl : Nat} {k : Nat} {a b : PRm} {l m : List Nat} (h : Rds sl k a b l) : PN N a m → PN N b (m ++ l) := by
  induction h with
  | zero a => intro hn; rw [List.append_nil]; exact hn
  | @succ k a b c l o h1 h2 ih => intro hn; rw [← List.append_assoc]; exact rd_pn (ih hn) h2
theorem pushAll_js : ∀ (l : List Pup) (a : PRm) (i : Nat) (P : PJ), (pushAll a l).js[i]? = some P → a.js[i]? = some P ∨ ∃ p, a.js.length ≤ i ∧ l[i - a.js.length]? = some p ∧ P = p.job (i + 1)
  | [], a, i, P, h => .inl h
  | x :: l, a, i, P, h => by
    rw [pushAll] at h
    have hlen : (pushP a (x.job (a.js.length + 1))).js.length = a.js.length + 1 := by unfold pushP; simp
    rcases pushAll_js l _ i P h with h1 | ⟨p, h1, h2, h3⟩
    · have h1' : (a.js ++ [x.job (a.js.length + 1)])[i]? = some P := h1
      rw [List.getElem?_append] at h1'
      by_cases e : i < a.js.length
      · rw [if_pos e] at h1'; exact .inl h1'
      · rw [if_neg e] at h1'
        have e2 : i - a.js.length = 0 := by
          have := (List.getElem?_eq_some_iff.1 h1').1
          simpa using this
        rw [e2] at h1'
        have e3 : i = a.js.length := by omega
        refine .inr ⟨x, by omega, by rw [e2]; rfl, ?_⟩
        have : x.job (a.js.length + 1) = P := by simpa using h1'
        rw [← this, e3]
    · rw [hlen] at h1 h2
      refine .inr ⟨p, by omega, ?_, h3⟩
      rw [show i - a.js.length = (i - (a.js.length + 1)) + 1 by omega, List.getElem?_cons_succ]
      exact h2
theorem pushAll_pn (ps : List Pup) : PN ps.length (pushAll ⟨[], []⟩ ps) [] := by
  refine ⟨by rw [pushAll_len]; simp, fun i P hi => ?_, fun i P hi => ?_, fun x hx => by cases hx⟩
  · rcases pushAll_js ps _ i P hi with h | ⟨p, _, _, rfl⟩
    · simp at h
    · refine ⟨rfl, rfl, ?_⟩
      have := (pup_f p).2
      show p.f ≤ 300
      omega
  · rcases pushAll_js ps _ i P hi with h | ⟨p, _, _, rfl⟩
    · simp at h
    · rfl
theorem wt_le : ∀ (l : List PJ), (∀ P ∈ l, P.fuel ≤ 300) → (l.map wt).sum ≤ 301 * l.length
  | [], _ => by simp
  | P :: l, h => by
    have h1 := wt_le l fun Q hQ => h Q (List.mem_cons_of_mem _ hQ)
    have h2 := h P (by simp)
    have h3 : wt P ≤ 301 := by unfold wt; split <;> omega
    simp only [List.map_cons, List.sum_cons, List.length_cons]
    omega
theorem endsOf_some {ps : List Pup} {i : Nat} {p : Pup} (h : ps[i]? = some p) : endsOf ps i = p.endM := by unfold endsOf; rw [h]
theorem done_out {ps : List Pup} {b : PRm} {l : List Nat} {N : Nat} (hg : PG (endsOf ps) b) (hn : PN N b l) {i : Nat} {p : Pup} {P : PJ} (hp : ps[i]? = some p) (hP : b.js[i]? = some P) (hd : P.done = true) : P.m.over = some p.out.1 ∧ P.m.out = p.out.2.1 ∧ P.m.used = p.out.2.2 := by
  have h1 := (hg.good i P hP).rch
  have h2 := (hn.num i P hP).2.1
  rw [hd] at h2
  have h3 := rch_over h1 h2.symm
  rw [endsOf_some hp] at h3
  rw [← h3]
  exact (endM_ok p).2
theorem all_end {ps : List Pup} {sl : Nat} {b : PRm} {l : List Nat} (hs : 1 ≤ sl) (h : Rds sl 2000 (pushAll ⟨[], []⟩ (ps.take 5)) b l) : PN (min ps.length 5) b l ∧ PG (endsOf ps) b ∧ ∀ i p, i < 5 → ps[i]? = some p → ∃ P, b.js[i]? = some P ∧ P.done = true ∧ l.count (i + 1) = 1 := by
  have hn0 := pushAll_pn (ps.take 5)
  have hl0 : (ps.take 5).length = min ps.length 5 := by rw [List.length_take]; omega
  rw [hl0] at hn0
  have hg0 : PG (endsOf ps) (pushAll ⟨[], []⟩ (ps.take 5)) := by
    by_cases h5 : 5 ≤ ps.length
    · exact pushAll_good ps 5 h5 (Nat.le_refl _)
    · have := pushAll_good ps ps.length (Nat.le_refl _) (by omega)
      rw [List.take_of_length_le (Nat.le_refl _)] at this
      rw [List.take_of_length_le (by omega)]
      exact this
  have hn := rds_pn h hn0
  rw [List.nil_append] at hn
  obtain ⟨hg, hph⟩ := rds_pg h hg0 hs
  refine ⟨hn, hg, fun i p hi hp => ?_⟩
  have hpl := (List.getElem?_eq_some_iff.1 hp).1
  have hlt : i < b.js.length := by rw [hn.len]; omega
  have hP := List.getElem?_eq_getElem hlt
  have hdone : (b.js[i]).done = true := by
    rcases hph with e | e
    · cases hd : (b.js[i]).done with
      | true => rfl
      | false => have := hg.all i _ hP hd; rw [e] at this; cases this
    · exfalso
      have h1 := wt_le (pushAll ⟨[], []⟩ (ps.take 5)).js (fun P hP => by
        obtain ⟨j, hj⟩ := List.getElem?_of_mem hP
        exact (hn0.num j P hj).2.2)
      have h2 := hn0.len
      unfold phi at e
      omega
  refine ⟨_, hP, hdone, ?_⟩
  rw [hn.cnt i _ hP, hdone]
  rfl
open Go.ChangeShapes Go.WideShapes Go.ChangeAt Go.Deep
theorem row_own : ownKnob Tryz.prog.godebug = none := by kernel_rfl
theorem row_laidOut : laidOutB Tryz.prog = true := by kernel_rfl
theorem row_bytes : Tryz.prog.bytesOf 3 = 8 := by kernel_rfl
theorem row_pbytes : Tryz.prog.bytesOf 69 = 56 := by kernel_rfl
theorem row_pcells : Tryz.prog.cellsOf 69 = 3 := by kernel_rfl
theorem row_icells : Tryz.prog.cellsOf 3 = 1 := by kernel_rfl
theorem row_scells : Tryz.prog.cellsOf 23 = 1 := by kernel_rfl
theorem ints_came {W : World} {x : Addr} {len cap : Nat} {zs : List Int} (hl : len ≤ cap) (hm : cap ≤ maxLen) (hz : zs.length = cap) (hcell : ∀ i, i < zs.length → W.cell? (x.add i) = some (.int .i64 (zs.getD i 0))) (hwf : ∀ n ∈ zs, (Lit.int .i64 n).wf = true) :
    IntsAt W (.slice (some x) len cap) (zs.take len) := by
  have hlen : (zs.take len).length = len := by rw [List.length_take]; omega
  refine ⟨some x, cap, by rw [hlen], by omega, fun n hn => bounds_i64 (hwf n (List.mem_of_mem_take hn)), ?_⟩
  by_cases h0 : len = 0
  · exact .inl (by rw [h0]; rfl)
  · obtain ⟨b, off, spot⟩ := x
    have hc := hcell 0 (by omega)
    have hspot : spot = none := by simpa [Addr.add] using World.cell?_spot hc
    subst hspot
    have hcells : ∀ i, i < (zs.take len).length → W.cell? ⟨b, off + i, none⟩ = some (.int .i64 ((zs.take len).getD i 0)) := by
      intro i hi
      rw [hlen] at hi
      have h1 := hcell i (by omega)
      have e : (zs.take len).getD i 0 = zs.getD i 0 := by simp [List.getD, hi]
      rw [e]
      cases i with
      | zero => simpa [Addr.add] using h1
      | succ i => simpa [Addr.add] using h1
    refine .inr ⟨b, off, rfl, ?_, hcells⟩
    exact lt_of_cell (hcells 0 (by omega))
theorem ints_cells {H : Type} {enc : TypeId × Value → H} {W : World} {fuel : Nat} {cs : List Value} {y : DataW H × List MemPlace} (hf : DataW.trod enc Tryz.prog W 0 (fun _ => true) true fuel 23 cs = some y) :
    ∃ v ys, cs = [v] ∧ IntsAt W v ys ∧ (ys = [] ∨ ∃ e s, y.1 = .slice e s ∧ ys.length ≤ e.length + s.length) := by
  rcases open_ints Tryz.underlying23 Tryz.underlying3 row_icells hf with ⟨hcs, _⟩ | ⟨x, l, c, zs, hcs, _, hl, hm, hz, hx, hcell, hwz⟩
  · exact ⟨_, [], hcs, IntsAt.nil W, .inl rfl⟩
  · refine ⟨_, zs.take l, hcs, ints_came hl hm (by simpa using hz) hcell hwz, .inr ⟨_, _, by rw [hx], ?_⟩⟩
    simp [lits]
theorem weights_all {H : Type} {P : Program} {e : TypeId} : ∀ {l : List (DataW H)} {d : DataW H}, d ∈ l → ∀ n ∈ d.weights P e, n ∈ DataW.weightsAll P e l
  | x :: l, d, hd, n, hn => by
    rw [DataW.weightsAll]
    rcases List.mem_cons.1 hd with rfl | hd
    · exact List.mem_append_left _ hn
    · exact List.mem_append_right _ (weights_all hd n hn)
theorem addr_add {b o n : Nat} : (⟨b, o, none⟩ : Addr).add n = ⟨b, o + n, none⟩ := by
  unfold Addr.add
  split
  · next h => rw [h]; rfl
  · rfl
theorem pups_param {H : Type} {enc : TypeId × Value → H} {W : World} {a : Option Addr} {len cap : Nat} {d : DataW H} {p : List MemPlace} (h : DataW.Trod enc Tryz.prog W 0 (fun _ => true) true 60 (.slice a len cap) d p) (hsz : ∀ n ∈ d.weights Tryz.prog 60, n ≤ reachBytes) :
    ∃ ps, PupAt W (.slice a len cap) ps := by
  obtain ⟨fuel, hf⟩ := h
  have hrb := reachBytes_lt
  rcases open_slice Tryz.underlying60 hf with ⟨hcs, _⟩ | ⟨x, l, c, m, n, D, Pl, hcs, _, hl, hm, hmm, hx, hel⟩
  · simp [Value.cells] at hcs
    obtain ⟨rfl, rfl, rfl⟩ := hcs
    exact ⟨[], none, 0, rfl, by simp, .inl rfl⟩
  · simp [Value.cells] at hcs
    obtain ⟨rfl, rfl, rfl⟩ := hcs
    have hmc : m = cap := by simpa using hmm
    clear hmm
    subst hmc
    injection hx with hx1 _
    subst hx1
    simp only [DataW.weights, Tryz.underlying60] at hsz
    have hn56 := hsz _ List.mem_cons_self
    rw [row_pbytes] at hn56
    simp only [List.length_map, List.length_range] at hn56
    have hkey : ∀ i, i < len → ∃ q : Pup, (-9223372036854775808 ≤ q.fuel ∧ q.fuel ≤ 9223372036854775807) ∧ q.inp.length ≤ 17592186044416 ∧
        ∃ vr vi, W.cell? ((x.add (i * 3)).add 0) = some vr ∧ W.cell? ((x.add (i * 3)).add 1) = some (.int .i64 q.fuel) ∧ W.cell? ((x.add (i * 3)).add 2) = some vi ∧ IntsAt W vr q.raw ∧ IntsAt W vi q.inp := fun i hi => by
      obtain ⟨cs', hc1, hc2⟩ := hel i (by omega)
      rw [row_pcells] at hc1
      obtain ⟨_, hcl, hce⟩ := World.cells?_some hc1
      obtain ⟨y0, y1, y2, n', hD, _, t0, t1, t2⟩ := trod_struct3 Tryz.underlying69 hc2
      dsimp only at t0 t1 t2
      rw [row_scells] at t0 t2
      rw [row_icells] at t1
      match cs', hcl with
      | [z0, z1, z2], _ =>
        simp only [List.drop_zero, List.drop_succ_cons, List.take_succ_cons, List.take_zero] at t0 t1 t2
        obtain ⟨v0, ys0, e0, i0, _⟩ := ints_cells t0
        obtain ⟨f, e1, _, hwf⟩ := DataW.trod_int Tryz.underlying3 t1
        obtain ⟨v2, ys2, e2, i2, s2⟩ := ints_cells t2
        cases e0
        cases e1
        cases e2
        have hi2 : ys2.length ≤ 17592186044416 := by
          rcases s2 with rfl | ⟨e, s, he, hl2⟩
          · simp
          · have hDm : D i ∈ (List.range len).map D := List.mem_map.2 ⟨i, List.mem_range.2 hi, rfl⟩
            have hw : (e.length + s.length) * Tryz.prog.bytesOf 3 ∈ (D i).weights Tryz.prog 69 := by
              have hD1 : D i = .agg [y0.1, y1.1, y2.1] := (Prod.mk.inj hD).1
              rw [hD1]
              simp only [DataW.weights, Tryz.underlying69, List.map_cons, List.map_nil, DataW.weightsEach, he, Tryz.underlying23]
              simp
            have := hsz _ (List.mem_cons_of_mem _ (List.mem_append_left _ (weights_all hDm _ hw)))
            rw [row_bytes] at this
            omega
        exact ⟨⟨ys0, f, ys2⟩, bounds_i64 hwf, hi2, z0, z2, hce 0 (by omega), hce 1 (by omega), hce 2 (by omega), i0, i2⟩
    haveI : Inhabited Pup := ⟨⟨[], 0, []⟩⟩
    obtain ⟨F, hF⟩ := choose_lt hkey
    refine ⟨(List.range len).map F, some x, m, by simp, by simp; omega, ?_⟩
    by_cases h0 : len = 0
    · exact .inl (by rw [h0]; rfl)
    · obtain ⟨b, off, spot⟩ := x
      obtain ⟨_, _, vr, vi, c0, _⟩ := hF 0 (by omega)
      have hspot : spot = none := by simpa [Addr.add] using World.cell?_spot c0
      subst hspot
      rw [addr_add, addr_add] at c0
      refine .inr ⟨b, off, rfl, lt_of_cell c0, fun i q hq => ?_⟩
      have hi : i < len := by
        have := (List.getElem?_eq_some_iff.1 hq).1
        simpa using this
      have hq2 : F i = q := by
        rw [List.getElem?_map, List.getElem?_range hi] at hq
        simpa using hq
      subst hq2
      obtain ⟨g1, g2, vr, vi, c0, c1, c2, g3, g4⟩ := hF i hi
      rw [addr_add, addr_add] at c0 c1 c2
      exact ⟨g1, g2, vr, vi, c0, c1, c2, g3, g4⟩
theorem pups_size {H : Type} {ts : List TypeId} {ds : List (DataW H)} {j : Nat} {t : TypeId} {d : DataW H} (hsz : (DataW.weightsEach Tryz.prog ts ds).all (· ≤ reachBytes) = true) (ht : ts[j]? = some t) (hd : ds[j]? = some d) : ∀ n ∈ d.weights Tryz.prog t, n ≤ reachBytes := fun n hn => by
  have := List.all_eq_true.1 hsz _ (DataW.weights_mem_each ht hd n hn)
  simpa using this
theorem same_eq {vo vp : Value} {o : Nat × List Int × Nat} {w : World} (ho : OutAt w vo o) (hp : OutAt w vp o) :
    Calls Tryz.prog 26 #[vo, vp] w fun e w' => e = .returned (.bool true) ∧ Below w.heap.size w w' := by
  obtain ⟨u, rfl, hu⟩ := ho
  obtain ⟨v, rfl, hv⟩ := hp
  obtain ⟨oc, out, ou⟩ := o
  dsimp only at hu hv ⊢
  have H1 : Hid (∀ A B, Calls Tryz.prog 36 #[u, v] ((w.alloc A).alloc B) fun e w' => e = .returned (.bool true) ∧ Below ((w.alloc A).alloc B).heap.size ((w.alloc A).alloc B) w') := fun A B => by
    have := sameInts_any u v out out ((w.alloc A).alloc B) (hu.below (up_two _ _ _)) (hv.below (up_two _ _ _))
    rwa [decide_eq_true rfl] at this
  obtain ⟨a, ca, rfl, _⟩ := hu
  obtain ⟨b, cb, rfl, _⟩ := hv
  go_enter Tryz.func26, Tryz.ntmps26
  go_wp2_with (go_at_call 36; refine Calls.mono (H1.out _ _) ?_; rintro e w2 ⟨rfl, hb2⟩; have c0 : w2.cell? ⟨w.heap.size, 0, none⟩ = some (.int .i64 (oc : Nat)) := kept_two hb2 0; have c2 : w2.cell? ⟨w.heap.size, 2, none⟩ = some (.int .i64 (ou : Nat)) := kept_two hb2 2; have d0 : w2.cell? ⟨w.heap.size + 1, 0, none⟩ = some (.int .i64 (oc : Nat)) := (by have := kept_one hb2 0; simpa using this); have d2 : w2.cell? ⟨w.heap.size + 1, 2, none⟩ = some (.int .i64 (ou : Nat)) := (by have := kept_one hb2 2; simpa using this))
  go_ret
  exact ⟨rfl, below_two hb2⟩
end Go.Proofs.YtklobognaldjpaaGreat
