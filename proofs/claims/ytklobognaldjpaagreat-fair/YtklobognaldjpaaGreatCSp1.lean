/- Pupils that came in: out of the reading of an argument. Plain: the heap's first is the least; none is ahead for long. Plain: none is ahead for long. What package lecternkeep does: same, wrap. -/
import Derived.Test.YtklobognaldjpaaGreatRows
import Derived.Test.YtklobognaldjpaaGreatCRp5
import Derived.WalkKit
import Derived.ProofKit
import Derived.OpenShut
import Derived.ShutString
import Derived.ChangeOld
import Derived.ChangeSlices
import Derived.SizedLaws
import Derived.Below
import Derived.Deep.Slices
import Derived.Deep.Strs
import Derived.Test.YtklobognaldjpaaGreatCRm8
set_option maxRecDepth 1000000
set_option maxHeartbeats 2000000
namespace Go.Proofs.YtklobognaldjpaaGreat
open Go.ChangeShapes Go.WideShapes Go.ChangeAt Go.RowKit Go.Deep
theorem row_own : ownKnob Tryz.prog.godebug = none := by kernel_rfl
theorem row_laidOut : laidOutB Tryz.prog = true := by kernel_rfl
theorem row_bytes : Tryz.prog.bytesOf 3 = 8 := by kernel_rfl
theorem row_pbytes : Tryz.prog.bytesOf 69 = 56 := by kernel_rfl
theorem row_pcells : Tryz.prog.cellsOf 69 = 3 := by kernel_rfl
theorem row_icells : Tryz.prog.cellsOf 3 = 1 := by kernel_rfl
theorem row_scells : Tryz.prog.cellsOf 23 = 1 := by kernel_rfl
theorem ints_came {W : World} {x : Addr} {len cap : Nat} {zs : List Int} (hl : len <= cap) (hm : cap <= maxLen) (hz : zs.length = cap) (hcell : ∀ i, i < zs.length -> W.cell? (x.add i) = some (.int .i64 (zs.getD i 0))) (hwf : ∀ n ∈ zs, (Lit.int .i64 n).wf = true) :
  IntsAt W (.slice (some x) len cap) (zs.take len) := by
 have hlen : (zs.take len).length = len := by rw [List.length_take]; omega
 refine ⟨some x, cap, by rw [hlen], by omega, fun n hn => bounds_i64 (hwf n (List.mem_of_mem_take hn)), ?_⟩
 by_cases h0 : len = 0
 ·exact .inl (by rw [h0]; rfl)
 ·obtain ⟨b, off, spot⟩ := x
  have hc := hcell 0 (by omega)
  have hspot : spot = none := by simpa [Addr.add] using World.cell?_spot hc
  subst hspot
  have hcells : ∀ i, i < (zs.take len).length -> W.cell? ⟨b, off + i, none⟩ = some (.int .i64 ((zs.take len).getD i 0)) := by
   intro i hi
   rw [hlen] at hi
   have h1 := hcell i (by omega)
   have e : (zs.take len).getD i 0 = zs.getD i 0 := by simp [List.getD, hi]
   rw [e]
   cases i with
   | zero => simpa [Addr.add] using h1
   | succ i => simpa [Addr.add] using h1
  refine .inr ⟨b, off, rfl, ?_, hcells⟩
  exact lt_of_cell (hcells 0 (by omega))
theorem ints_cells {H : Type} {enc : TypeId × Value -> H} {W : World} {fuel : Nat} {cs : List Value} {y : DataW H × List MemPlace} (hf : DataW.trod enc Tryz.prog W 0 (fun _ => true) true fuel 23 cs = some y) :
  ∃ v ys, cs = [v] /\ IntsAt W v ys /\ (ys = [] ∨ ∃ e s, y.1 = .slice e s /\ ys.length <= e.length + s.length) := by
 rcases open_ints Tryz.underlying23 Tryz.underlying3 row_icells hf with ⟨hcs, _⟩ | ⟨x, l, c, zs, hcs, _, hl, hm, hz, hx, hcell, hwz⟩
 ·exact ⟨_, [], hcs, IntsAt.nil W, .inl rfl⟩
 ·refine ⟨_, zs.take l, hcs, ints_came hl hm (by simpa using hz) hcell hwz, .inr ⟨_, _, by rw [hx], ?_⟩⟩
  simp [lits]
theorem weights_all {H : Type} {P : Program} {e : TypeId} : ∀ {l : List (DataW H)} {d : DataW H}, d ∈ l -> ∀ n ∈ d.weights P e, n ∈ DataW.weightsAll P e l
 | x :: l, d, hd, n, hn => by
  rw [DataW.weightsAll]
  rcases List.mem_cons.1 hd with rfl | hd
  ·exact List.mem_append_left _ hn
  ·exact List.mem_append_right _ (weights_all hd n hn)
theorem addr_add {b o n : Nat} : (⟨b, o, none⟩ : Addr).add n = ⟨b, o + n, none⟩ := by
 unfold Addr.add
 split
 ·next h => rw [h]; rfl
 ·rfl
theorem pups_param {H : Type} {enc : TypeId × Value -> H} {W : World} {a : Option Addr} {len cap : Nat} {d : DataW H} {p : List MemPlace} (h : DataW.Trod enc Tryz.prog W 0 (fun _ => true) true 60 (.slice a len cap) d p) (hsz : ∀ n ∈ d.weights Tryz.prog 60, n <= reachBytes) :
  ∃ ps, PupAt W (.slice a len cap) ps := by
 obtain ⟨fuel, hf⟩ := h
 have hrb := reachBytes_lt
 rcases open_slice Tryz.underlying60 hf with ⟨hcs, _⟩ | ⟨x, l, c, m, n, D, Pl, hcs, _, hl, hm, hmm, hx, hel⟩
 ·simp [Value.cells] at hcs
  obtain ⟨rfl, rfl, rfl⟩ := hcs
  exact ⟨[], none, 0, rfl, by simp, .inl rfl⟩
 ·simp [Value.cells] at hcs
  obtain ⟨rfl, rfl, rfl⟩ := hcs
  have hmc : m = cap := by simpa using hmm
  clear hmm
  subst hmc
  injection hx with hx1 _
  subst hx1
  simp only [DataW.weights, Tryz.underlying60] at hsz
  have hn56 := hsz _ List.mem_cons_self
  rw [row_pbytes] at hn56
  simp only [List.length_map, List.length_range] at hn56
  have hkey : ∀ i, i < len -> ∃ q : Pup, (-9223372036854775808 <= q.fuel /\ q.fuel <= 9223372036854775807) /\ q.inp.length <= 17592186044416 /\
    ∃ vr vi, W.cell? ((x.add (i * 3)).add 0) = some vr /\ W.cell? ((x.add (i * 3)).add 1) = some (.int .i64 q.fuel) /\ W.cell? ((x.add (i * 3)).add 2) = some vi /\ IntsAt W vr q.raw /\ IntsAt W vi q.inp := fun i hi => by
   obtain ⟨cs', hc1, hc2⟩ := hel i (by omega)
   rw [row_pcells] at hc1
   obtain ⟨_, hcl, hce⟩ := World.cells?_some hc1
   obtain ⟨y0, y1, y2, n', hD, _, t0, t1, t2⟩ := trod_struct3 Tryz.underlying69 hc2
   dsimp only at t0 t1 t2
   rw [row_scells] at t0 t2
   rw [row_icells] at t1
   match cs', hcl with
   | [z0, z1, z2], _ =>
    simp only [List.drop_zero, List.drop_succ_cons, List.take_succ_cons, List.take_zero] at t0 t1 t2
    obtain ⟨v0, ys0, e0, i0, _⟩ := ints_cells t0
    obtain ⟨f, e1, _, hwf⟩ := DataW.trod_int Tryz.underlying3 t1
    obtain ⟨v2, ys2, e2, i2, s2⟩ := ints_cells t2
    cases e0
    cases e1
    cases e2
    have hi2 : ys2.length <= 17592186044416 := by
     rcases s2 with rfl | ⟨e, s, he, hl2⟩
     ·simp
     ·have hDm : D i ∈ (List.range len).map D := List.mem_map.2 ⟨i, List.mem_range.2 hi, rfl⟩
      have hw : (e.length + s.length) * Tryz.prog.bytesOf 3 ∈ (D i).weights Tryz.prog 69 := by
       have hD1 : D i = .agg [y0.1, y1.1, y2.1] := (Prod.mk.inj hD).1
       rw [hD1]
       simp only [DataW.weights, Tryz.underlying69, List.map_cons, List.map_nil, DataW.weightsEach, he, Tryz.underlying23]
       simp
      have := hsz _ (List.mem_cons_of_mem _ (List.mem_append_left _ (weights_all hDm _ hw)))
      rw [row_bytes] at this
      omega
    exact ⟨⟨ys0, f, ys2⟩, bounds_i64 hwf, hi2, z0, z2, hce 0 (by omega), hce 1 (by omega), hce 2 (by omega), i0, i2⟩
  haveI : Inhabited Pup := ⟨⟨[], 0, []⟩⟩
  obtain ⟨F, hF⟩ := choose_lt hkey
  refine ⟨(List.range len).map F, some x, m, by simp, by simp; omega, ?_⟩
  by_cases h0 : len = 0
  ·exact .inl (by rw [h0]; rfl)
  ·obtain ⟨b, off, spot⟩ := x
   obtain ⟨_, _, vr, vi, c0, _⟩ := hF 0 (by omega)
   have hspot : spot = none := by simpa [Addr.add] using World.cell?_spot c0
   subst hspot
   rw [addr_add, addr_add] at c0
   refine .inr ⟨b, off, rfl, lt_of_cell c0, fun i q hq => ?_⟩
   have hi : i < len := by
    have := (List.getElem?_eq_some_iff.1 hq).1
    simpa using this
   have hq2 : F i = q := by
    rw [List.getElem?_map, List.getElem?_range hi] at hq
    simpa using hq
   subst hq2
   obtain ⟨g1, g2, vr, vi, c0, c1, c2, g3, g4⟩ := hF i hi
   rw [addr_add, addr_add] at c0 c1 c2
   exact ⟨g1, g2, vr, vi, c0, c1, c2, g3, g4⟩
theorem pups_size {H : Type} {ts : List TypeId} {ds : List (DataW H)} {j : Nat} {t : TypeId} {d : DataW H} (hsz : (DataW.weightsEach Tryz.prog ts ds).all (· <= reachBytes) = true) (ht : ts[j]? = some t) (hd : ds[j]? = some d) : ∀ n ∈ d.weights Tryz.prog t, n <= reachBytes := fun n hn => by
 have := List.all_eq_true.1 hsz _ (DataW.weights_mem_each ht hd n hn)
 simpa using this
def leK (x y : Int × Int) : Prop := x.1 < y.1 ∨ (x.1 = y.1 /\ x.2 <= y.2)
theorem leK_refl (x : Int × Int) : leK x x := .inr ⟨rfl, Int.le_refl _⟩
theorem leK_trans {x y z : Int × Int} (h : leK x y) (k : leK y z) : leK x z := by unfold leK at *; omega
theorem not_ahead {x y : Int × Int} (h : aheadK x y = false) : leK y x := by
 unfold aheadK at h
 unfold leK
 by_cases e : x.1 = y.1
 ·rw [if_neg (by simp [e])] at h
  have := of_decide_eq_false h
  omega
 ·rw [if_pos e] at h
  have := of_decide_eq_false h
  omega
theorem ahead_le {x y : Int × Int} (h : aheadK x y ≠ false) : leK x y := by
 have h : aheadK x y = true := by simpa using h
 unfold aheadK at h
 unfold leK
 by_cases e : x.1 = y.1
 ·rw [if_neg (by simp [e])] at h
  have := of_decide_eq_true h
  omega
 ·rw [if_pos e] at h
  have := of_decide_eq_true h
  omega
def kp (ky : Nat -> Int × Int) (l : List Nat) (c : Nat) : Int × Int := ky (l.getD c 0)
theorem swapL_at {l : List Nat} {i j : Nat} (hi : i < l.length) (hj : j < l.length) (c : Nat) : (swapL l i j).getD c 0 = if c = j then l.getD i 0 else if c = i then l.getD j 0 else l.getD c 0 := by
 unfold swapL
 simp only [List.getD]
 rw [List.getElem?_set]
 by_cases e : j = c
 ·subst e
  rw [if_pos rfl, if_pos rfl, if_pos (by simpa using hj)]
  rfl
 ·rw [if_neg e, if_neg (fun h => e h.symm), List.getElem?_set]
  by_cases e2 : i = c
  ·subst e2
   rw [if_pos rfl, if_pos rfl, if_pos hi]
   rfl
  ·rw [if_neg e2, if_neg (fun h => e2 h.symm)]
theorem kp_swap (ky : Nat -> Int × Int) {l : List Nat} {i j : Nat} (hi : i < l.length) (hj : j < l.length) (c : Nat) : kp ky (swapL l i j) c = if c = j then kp ky l i else if c = i then kp ky l j else kp ky l c := by
 unfold kp
 rw [swapL_at hi hj]
 split
 ·rfl
 ·split <;> rfl
def HeapK (k : Nat -> Int × Int) (n : Nat) : Prop := ∀ c, 1 <= c -> c < n -> leK (k ((c - 1) / 2)) (k c)
theorem heap_min {k : Nat -> Int × Int} {n : Nat} (h : HeapK k n) : ∀ c, c < n -> leK (k 0) (k c) := by
 intro c
 induction c using Nat.strongRecOn with
 | ind c ih =>
  intro hc
  by_cases h0 : c = 0
  ·rw [h0]; exact leK_refl _
  ·exact leK_trans (ih ((c - 1) / 2) (by omega) (by omega)) (h c (by omega) hc)
theorem up_heap (ky : Nat -> Int × Int) : ∀ (f : Nat) (l : List Nat) (j : Nat), j < l.length -> j < f -> (∀ c, 1 <= c -> c < l.length -> c ≠ j -> leK (kp ky l ((c - 1) / 2)) (kp ky l c)) -> (∀ c, 1 <= c -> c < l.length -> (c - 1) / 2 = j -> 1 <= j -> leK (kp ky l ((j - 1) / 2)) (kp ky l c)) -> HeapK (kp ky (upL ky f l j)) l.length
 | 0, _, _, _, h, _, _ => absurd h (Nat.not_lt_zero _)
 | f + 1, l, j, hj, hf, h1, h2 => by
  rw [upL]
  by_cases hc : (j - 1) / 2 = j ∨ lessAt ky l j ((j - 1) / 2) = false
  ·rw [if_pos hc]
   intro c c1 c2
   by_cases e : c = j
   ·subst e
    rcases hc with hc | hc
    ·omega
    ·exact not_ahead hc
   ·exact h1 c c1 c2 e
  ·rw [if_neg hc]
   have hc1 : (j - 1) / 2 ≠ j := fun e => hc (.inl e)
   have hc2 : leK (kp ky l j) (kp ky l ((j - 1) / 2)) := ahead_le (fun e => hc (.inr e))
   generalize hp : (j - 1) / 2 = p at *
   have hj1 : 1 <= j := by omega
   have hpj : p < j := by omega
   have hpl : p < l.length := by omega
   have := up_heap ky f (swapL l p j) p (by rw [swapL_len]; exact hpl) (by omega) ?_ ?_
   ·rw [swapL_len] at this; exact this
   ·intro c c1 c2 c3
    rw [swapL_len] at c2
    rw [kp_swap ky hpl hj, kp_swap ky hpl hj]
    by_cases e : c = j
    ·subst e
     rw [hp, if_neg (by omega), if_pos rfl, if_pos rfl]
     exact hc2
    ·rw [if_neg e, if_neg c3]
     by_cases e2 : (c - 1) / 2 = j
     ·rw [if_pos e2]
      exact h2 c c1 c2 e2 hj1
     ·rw [if_neg e2]
      by_cases e3 : (c - 1) / 2 = p
      ·rw [if_pos e3]
       have := h1 c c1 c2 e
       rw [e3] at this
       exact leK_trans hc2 this
      ·rw [if_neg e3]
       exact h1 c c1 c2 e
   ·intro c c1 c2 c3 hp1
    rw [swapL_len] at c2
    rw [kp_swap ky hpl hj, kp_swap ky hpl hj]
    rw [if_neg (show (p - 1) / 2 ≠ j by omega), if_neg (show (p - 1) / 2 ≠ p by omega)]
    have hpp := h1 p hp1 hpl (by omega)
    by_cases e : c = j
    ·rw [if_pos e]; exact hpp
    ·rw [if_neg e, if_neg (by omega)]
     have := h1 c c1 c2 e
     rw [c3] at this
     exact leK_trans hpp this
theorem down_heap (ky : Nat -> Int × Int) (n : Nat) : ∀ (f : Nat) (l : List Nat) (i : Nat), n <= l.length -> n < i + f -> (∀ c, 1 <= c -> c < n -> (c - 1) / 2 ≠ i -> leK (kp ky l ((c - 1) / 2)) (kp ky l c)) -> (∀ c, 1 <= c -> c < n -> (c - 1) / 2 = i -> 1 <= i -> leK (kp ky l ((i - 1) / 2)) (kp ky l c)) -> HeapK (kp ky (downL ky n f l i).1) n
 | 0, l, i, hn, hf, h1, h2 => by
  rw [downL]
  intro c c1 c2
  exact h1 c c1 c2 (by omega)
 | f + 1, l, i, hn, hf, h1, h2 => by
  have hkid : (kidL ky n l i = 2 * i + 1 ∨ (kidL ky n l i = 2 * i + 2 /\ 2 * i + 2 < n)) /\ ∀ c, 1 <= c -> c < n -> (c - 1) / 2 = i -> leK (kp ky l (kidL ky n l i)) (kp ky l c) := by
   unfold kidL
   by_cases hk : 2 * i + 2 < n /\ lessAt ky l (2 * i + 2) (2 * i + 1) = true
   ·rw [if_pos hk]
    refine ⟨.inr ⟨rfl, hk.1⟩, fun c c1 c2 c3 => ?_⟩
    have : c = 2 * i + 1 ∨ c = 2 * i + 2 := by omega
    rcases this with rfl | rfl
    ·exact ahead_le fun e => by
      have e2 : lessAt ky l (2 * i + 2) (2 * i + 1) = false := e
      rw [hk.2] at e2
      cases e2
    ·exact leK_refl _
   ·rw [if_neg hk]
    refine ⟨.inl rfl, fun c c1 c2 c3 => ?_⟩
    have : c = 2 * i + 1 ∨ c = 2 * i + 2 := by omega
    rcases this with rfl | rfl
    ·exact leK_refl _
    ·have : lessAt ky l (2 * i + 2) (2 * i + 1) = false := by
      cases e : lessAt ky l (2 * i + 2) (2 * i + 1) with
      | false => rfl
      | true => exact absurd ⟨c2, e⟩ hk
     exact not_ahead this
  obtain ⟨hq, hmin⟩ := hkid
  rw [downL]
  generalize kidL ky n l i = q at *
  by_cases hc : n <= 2 * i + 1 ∨ lessAt ky l q i = false
  ·rw [if_pos hc]
   intro c c1 c2
   by_cases e : (c - 1) / 2 = i
   ·rw [e]
    rcases hc with hc | hc
    ·omega
    ·exact leK_trans (not_ahead hc) (hmin c c1 c2 e)
   ·exact h1 c c1 c2 e
  ·rw [if_neg hc]
   have hc1 : 2 * i + 1 < n := by
    by_cases e : n <= 2 * i + 1
    ·exact absurd (.inl e) hc
    ·omega
   have hc2 : leK (kp ky l q) (kp ky l i) := ahead_le (fun e => hc (.inr e))
   have hqn : q < n := by omega
   have hqi : (q - 1) / 2 = i := by omega
   have hql : q < l.length := by omega
   have hil : i < l.length := by omega
   refine down_heap ky n f (swapL l i q) q (by rw [swapL_len]; exact hn) (by omega) ?_ ?_
   ·intro c c1 c2 c3
    rw [kp_swap ky hil hql, kp_swap ky hil hql]
    by_cases e : c = q
    ·subst e
     rw [hqi, if_neg (by omega), if_pos rfl, if_pos rfl]
     exact hc2
    ·rw [if_neg e, if_neg c3]
     by_cases e2 : c = i
     ·subst e2
      rw [if_pos rfl, if_neg (by omega)]
      exact h2 q (by omega) hqn hqi c1
     ·rw [if_neg e2]
      by_cases e3 : (c - 1) / 2 = i
      ·rw [if_pos e3]
       exact hmin c c1 c2 e3
      ·rw [if_neg e3]
       exact h1 c c1 c2 e3
   ·intro c c1 c2 c3 hq1
    rw [kp_swap ky hil hql, kp_swap ky hil hql, hqi, if_neg (by omega), if_pos rfl, if_neg (by omega), if_neg (by omega)]
    have := h1 c c1 c2 (by omega)
    rw [c3] at this
    exact this
structure PF (sl : Nat) (a : PRm) : Prop where
 heap : HeapK (kp (kyP a.js) a.hp) a.hp.length
 fair : ∀ (i j : Nat) (P Q : PJ), a.js[i]? = some P -> a.js[j]? = some Q -> P.done = false -> Q.done = false -> P.m.used <= Q.m.used + sl
theorem kp_at {ky : Nat -> Int × Int} {l : List Nat} {c : Nat} (hc : c < l.length) : kp ky l c = ky l[c] := by
 unfold kp
 simp [List.getD, hc]
theorem head_least {E : Nat -> MS} {sl : Nat} {js : List PJ} {i : Nat} {t : List Nat} (hg : PG E ⟨js, i :: t⟩) (hf : PF sl ⟨js, i :: t⟩) {j : Nat} {P Q : PJ} (hi : js[i]? = some P) (hj : js[j]? = some Q) (hd : Q.done = false) : P.m.used <= Q.m.used := by
 have hm := hg.all j Q hj hd
 obtain ⟨c, hc, he⟩ := List.mem_iff_getElem.1 hm
 have hk := heap_min hf.heap c hc
 rw [kp_at hc, he, kp_at (Nat.succ_pos _)] at hk
 have e0 : (i :: t)[0] = i := rfl
 have e1 : kyP js i = (((P.m.used : Nat) : Int), ((P.num : Nat) : Int)) := by unfold kyP; rw [hi]
 have e2 : kyP js j = (((Q.m.used : Nat) : Int), ((Q.num : Nat) : Int)) := by unfold kyP; rw [hj]
 have hk2 : leK (kyP js i) (kyP js j) := hk
 rw [e1, e2] at hk2
 unfold leK at hk2
 simp only at hk2
 omega
theorem kyP_set {js : List PJ} {i : Nat} {P : PJ} {x : Nat} (hil : i < js.length) (h : x ≠ i) : kyP (js.set i P) x = kyP js x := by
 unfold kyP
 rw [set_at hil, if_neg (fun e => h e.symm)]
theorem heap_next {E : Nat -> MS} {js : List PJ} {i : Nat} {t : List Nat} {P' : PJ} (hg : PG E ⟨js, i :: t⟩) (hil : i < js.length) (hh : HeapK (kp (kyP js) (i :: t)) (i :: t).length) (over : Bool) : HeapK (kp (kyP (js.set i P')) (nextP (js.set i P') over (i :: t))) (nextP (js.set i P') over (i :: t)).length := by
 have hnd : (i :: t).Nodup := hg.nd
 have hsame : ∀ c, 1 <= c -> c < (i :: t).length -> kp (kyP (js.set i P')) (i :: t) c = kp (kyP js) (i :: t) c := fun c c1 c2 => by
  rw [kp_at c2, kp_at c2]
  refine kyP_set hil fun e => ?_
  have e0 : (i :: t)[0] = i := rfl
  have := (List.getElem_inj (h₀ := c2) (h₁ := Nat.succ_pos _) hnd).1 (e.trans e0.symm)
  omega
 generalize hky : kyP (js.set i P') = ky' at *
 unfold nextP
 rw [hky]
 cases over with
 | false =>
  rw [if_neg (by simp)]
  have hl : (fixL ky' (i :: t)).length = (i :: t).length := downL_len _ _ _ _ _
  rw [hl]
  unfold fixL
  refine down_heap ky' _ _ (i :: t) 0 (Nat.le_refl _) (by omega) (fun c c1 c2 c3 => ?_) (fun c _ _ _ h => absurd h (by omega))
  rw [hsame c c1 c2, hsame _ (by omega) (by omega)]
  exact hh c c1 c2
 | true =>
  rw [if_pos rfl]
  have hlen : (i :: t).length = t.length + 1 := rfl
  have hl : (popL ky' (i :: t)).length = (i :: t).length - 1 := by unfold popL; rw [List.length_take, downL_len, swapL_len]; omega
  rw [hl]
  have hd := down_heap ky' ((i :: t).length - 1) ((i :: t).length - 1 + 1) (swapL (i :: t) 0 ((i :: t).length - 1)) 0 (by rw [swapL_len]; omega) (by omega) (fun c c1 c2 c3 => by
   rw [kp_swap ky' (by omega) (by omega), kp_swap ky' (by omega) (by omega), if_neg (by omega), if_neg (by omega), if_neg (by omega), if_neg (by omega), hsame c c1 (by omega), hsame _ (by omega) (by omega)]
   exact hh c c1 (by omega)) (fun c _ _ _ h => absurd h (by omega))
  have htake : ∀ c, c < (i :: t).length - 1 -> kp ky' (popL ky' (i :: t)) c = kp ky' (downL ky' ((i :: t).length - 1) ((i :: t).length - 1 + 1) (swapL (i :: t) 0 ((i :: t).length - 1)) 0).1 c := fun c hc => by
   unfold kp popL
   simp only [List.getD]
   rw [List.getElem?_take, if_pos hc]
  intro c c1 c2
  rw [htake c c2, htake _ (by omega)]
  exact hd c c1 c2
theorem rd_pf {E : Nat -> MS} {sl : Nat} {a b : PRm} {o : Option Nat} (hg : PG E a) (hf : PF sl a) (h : Rd sl a b o) : PF sl b := by
 cases h with
 | none js => exact hf
 | @turn js i n t P m' c hi hd hT =>
  have hG := hg.good i P hi
  obtain ⟨n2, m2, b2, hT2, hG2, hu, ho, hn⟩ := good_turn hG sl
  obtain ⟨rfl, _⟩ := trn_one hT2 hT
  have hil := (List.getElem?_eq_some_iff.1 hi).1
  refine ⟨heap_next hg hil hf.heap _, fun x y X Y hx hy hX hY => ?_⟩
  have hx' : (js.set i (P.after m2))[x]? = some X := hx
  have hy' : (js.set i (P.after m2))[y]? = some Y := hy
  rw [set_at hil] at hx' hy'
  by_cases ex : i = x
  ·rw [if_pos ex] at hx'
   cases hx'
   have hov : m2.over.isSome = false := hX
   have h2 : (P.after m2).m.used = P.m.used + sl := hn hov
   by_cases ey : i = y
   ·rw [if_pos ey] at hy'
    cases hy'
    omega
   ·rw [if_neg ey] at hy'
    have := head_least hg hf hi hy' hY
    omega
  ·rw [if_neg ex] at hx'
   by_cases ey : i = y
   ·rw [if_pos ey] at hy'
    cases hy'
    have h1 := hf.fair x i X P hx' hi hX hd
    have h2 : (P.after m2).m.used = m2.used := rfl
    omega
   ·rw [if_neg ey] at hy'
    exact hf.fair x y X Y hx' hy' hX hY
theorem push_heap {E : Nat -> MS} {a : PRm} {P : PJ} (hg : PG E a) (hh : HeapK (kp (kyP a.js) a.hp) a.hp.length) : HeapK (kp (kyP (pushP a P).js) (pushP a P).hp) (pushP a P).hp.length := by
 have hlen : (pushP a P).hp.length = (a.hp ++ [a.js.length]).length := upL_len _ _ _ _
 rw [hlen]
 have hl1 : (a.hp ++ [a.js.length]).length = a.hp.length + 1 := by simp
 have hsame : ∀ c, c < a.hp.length -> kp (kyP (a.js ++ [P])) (a.hp ++ [a.js.length]) c = kp (kyP a.js) a.hp c := fun c hc => by
  rw [kp_at (by omega), kp_at hc, List.getElem_append_left hc]
  obtain ⟨Q, q1, _⟩ := hg.hin (a.hp[c]) (List.getElem_mem hc)
  have := (List.getElem?_eq_some_iff.1 q1).1
  unfold kyP
  rw [List.getElem?_append_left this]
 refine up_heap (kyP (a.js ++ [P])) (a.hp.length + 1) (a.hp ++ [a.js.length]) a.hp.length (by omega) (by omega) (fun c c1 c2 c3 => ?_) (fun c c1 c2 c3 _ => by omega)
 rw [hsame c (by omega), hsame _ (by omega)]
 exact hh c c1 (by omega)
theorem pushAll_heap (ps : List Pup) : ∀ j, j <= ps.length -> j <= 5 -> HeapK (kp (kyP (pushAll ⟨[], []⟩ (ps.take j)).js) (pushAll ⟨[], []⟩ (ps.take j)).hp) (pushAll ⟨[], []⟩ (ps.take j)).hp.length
 | 0, _, _ => by rw [List.take_zero]; intro c c1 c2; simp [pushAll] at c2
 | j + 1, h1, h2 => by
  rw [List.take_add_one, List.getElem?_eq_getElem (by omega)]
  have e : pushAll ⟨[], []⟩ (ps.take j ++ (some ps[j]).toList) = pushP (pushAll ⟨[], []⟩ (ps.take j)) ((ps[j]).job ((pushAll ⟨[], []⟩ (ps.take j)).js.length + 1)) := pushAll_snoc _ _ _
  rw [e]
  exact push_heap (pushAll_good ps j (by omega) (by omega)) (pushAll_heap ps j (by omega) (by omega))
theorem pushAll_good5 (ps : List Pup) : PG (endsOf ps) (pushAll ⟨[], []⟩ (ps.take 5)) := by
 by_cases h5 : 5 <= ps.length
 ·exact pushAll_good ps 5 h5 (Nat.le_refl _)
 ·have := pushAll_good ps ps.length (Nat.le_refl _) (by omega)
  rw [List.take_of_length_le (Nat.le_refl _)] at this
  rw [List.take_of_length_le (by omega)]
  exact this
theorem pushAll_pf (ps : List Pup) (sl : Nat) : PF sl (pushAll ⟨[], []⟩ (ps.take 5)) := by
 constructor
 ·by_cases h5 : 5 <= ps.length
  ·exact pushAll_heap ps 5 h5 (Nat.le_refl _)
  ·have := pushAll_heap ps ps.length (Nat.le_refl _) (by omega)
   rw [List.take_of_length_le (Nat.le_refl _)] at this
   rw [List.take_of_length_le (by omega)]
   exact this
 ·intro i j P Q hi _ _ _
  rcases pushAll_js (ps.take 5) _ i P hi with h | ⟨p, _, _, rfl⟩
  ·simp at h
  ·exact Nat.zero_le _
theorem same_eq {vo vp : Value} {o : Nat × List Int × Nat} {w : World} (ho : OutAt w vo o) (hp : OutAt w vp o) :
  Calls Tryz.prog 26 #[vo, vp] w fun e w' => e = .returned (.bool true) /\ Below w.heap.size w w' := by
 obtain ⟨u, rfl, hu⟩ := ho
 obtain ⟨v, rfl, hv⟩ := hp
 obtain ⟨oc, out, ou⟩ := o
 dsimp only at hu hv ⊢
 have H1 : Hid (∀ A B, Calls Tryz.prog 36 #[u, v] ((w.alloc A).alloc B) fun e w' => e = .returned (.bool true) /\ Below ((w.alloc A).alloc B).heap.size ((w.alloc A).alloc B) w') := fun A B => by
  have := sameInts_any u v out out ((w.alloc A).alloc B) (hu.below (up_two _ _ _)) (hv.below (up_two _ _ _))
  rwa [decide_eq_true rfl] at this
 obtain ⟨a, ca, rfl, _⟩ := hu
 obtain ⟨b, cb, rfl, _⟩ := hv
 go_enter Tryz.func26, Tryz.ntmps26
 go_wp2_with (go_at_call 36; refine Calls.mono (H1.out _ _) ?_; rintro e w2 ⟨rfl, hb2⟩; have c0 : w2.cell? ⟨w.heap.size, 0, none⟩ = some (.int .i64 (oc : Nat)) := kept_two hb2 0; have c2 : w2.cell? ⟨w.heap.size, 2, none⟩ = some (.int .i64 (ou : Nat)) := kept_two hb2 2; have d0 : w2.cell? ⟨w.heap.size + 1, 0, none⟩ = some (.int .i64 (oc : Nat)) := (by have := kept_one hb2 0; simpa using this); have d2 : w2.cell? ⟨w.heap.size + 1, 2, none⟩ = some (.int .i64 (ou : Nat)) := (by have := kept_one hb2 2; simpa using this))
 go_ret
 exact ⟨rfl, below_two hb2⟩
end Go.Proofs.YtklobognaldjpaaGreat
