/- Pupils that came in: out of the reading of an argument. Jobs in a heap: one is taken out of the midst of it. Plain: rounds are rounds; a job is dropped. -/
import Derived.Test.YtklobognaldjpaaGreatRows
import Derived.Test.YtklobognaldjpaaGreatCRp5
import Derived.WalkKit
import Derived.ProofKit
import Derived.OpenShut
import Derived.ShutString
import Derived.ChangeOld
import Derived.ChangeSlices
import Derived.SizedLaws
import Derived.Below
import Derived.Deep.Slices
import Derived.Deep.Strs
import Derived.Test.YtklobognaldjpaaGreatCHp5
set_option maxRecDepth 1000000
set_option maxHeartbeats 1000000
namespace Go.Proofs.YtklobognaldjpaaGreat
open Go.ChangeShapes Go.WideShapes Go.ChangeAt Go.RowKit Go.Deep
theorem row_own : ownKnob Tryz.prog.godebug = none := by kernel_rfl
theorem row_laidOut : laidOutB Tryz.prog = true := by kernel_rfl
theorem row_bytes : Tryz.prog.bytesOf 3 = 8 := by kernel_rfl
theorem row_pbytes : Tryz.prog.bytesOf 69 = 56 := by kernel_rfl
theorem row_pcells : Tryz.prog.cellsOf 69 = 3 := by kernel_rfl
theorem row_icells : Tryz.prog.cellsOf 3 = 1 := by kernel_rfl
theorem row_scells : Tryz.prog.cellsOf 23 = 1 := by kernel_rfl
theorem ints_came {W : World} {x : Addr} {len cap : Nat} {zs : List Int} (hl : len <= cap) (hm : cap <= maxLen) (hz : zs.length = cap) (hcell : ∀ i, i < zs.length -> W.cell? (x.add i) = some (.int .i64 (zs.getD i 0))) (hwf : ∀ n ∈ zs, (Lit.int .i64 n).wf = true) :
  IntsAt W (.slice (some x) len cap) (zs.take len) := by
 have hlen : (zs.take len).length = len := by rw [List.length_take]; omega
 refine ⟨some x, cap, by rw [hlen], by omega, fun n hn => bounds_i64 (hwf n (List.mem_of_mem_take hn)), ?_⟩
 by_cases h0 : len = 0
 ·exact .inl (by rw [h0]; rfl)
 ·obtain ⟨b, off, spot⟩ := x
  have hc := hcell 0 (by omega)
  have hspot : spot = none := by simpa [Addr.add] using World.cell?_spot hc
  subst hspot
  have hcells : ∀ i, i < (zs.take len).length -> W.cell? ⟨b, off + i, none⟩ = some (.int .i64 ((zs.take len).getD i 0)) := by
   intro i hi
   rw [hlen] at hi
   have h1 := hcell i (by omega)
   have e : (zs.take len).getD i 0 = zs.getD i 0 := by simp [List.getD, hi]
   rw [e]
   cases i with
   | zero => simpa [Addr.add] using h1
   | succ i => simpa [Addr.add] using h1
  refine .inr ⟨b, off, rfl, ?_, hcells⟩
  exact lt_of_cell (hcells 0 (by omega))
theorem ints_cells {H : Type} {enc : TypeId × Value -> H} {W : World} {fuel : Nat} {cs : List Value} {y : DataW H × List MemPlace} (hf : DataW.trod enc Tryz.prog W 0 (fun _ => true) true fuel 23 cs = some y) :
  ∃ v ys, cs = [v] /\ IntsAt W v ys /\ (ys = [] ∨ ∃ e s, y.1 = .slice e s /\ ys.length <= e.length + s.length) := by
 rcases open_ints Tryz.underlying23 Tryz.underlying3 row_icells hf with ⟨hcs, _⟩ | ⟨x, l, c, zs, hcs, _, hl, hm, hz, hx, hcell, hwz⟩
 ·exact ⟨_, [], hcs, IntsAt.nil W, .inl rfl⟩
 ·refine ⟨_, zs.take l, hcs, ints_came hl hm (by simpa using hz) hcell hwz, .inr ⟨_, _, by rw [hx], ?_⟩⟩
  simp [lits]
theorem weights_all {H : Type} {P : Program} {e : TypeId} : ∀ {l : List (DataW H)} {d : DataW H}, d ∈ l -> ∀ n ∈ d.weights P e, n ∈ DataW.weightsAll P e l
 | x :: l, d, hd, n, hn => by
  rw [DataW.weightsAll]
  rcases List.mem_cons.1 hd with rfl | hd
  ·exact List.mem_append_left _ hn
  ·exact List.mem_append_right _ (weights_all hd n hn)
theorem addr_add {b o n : Nat} : (⟨b, o, none⟩ : Addr).add n = ⟨b, o + n, none⟩ := by
 unfold Addr.add
 split
 ·next h => rw [h]; rfl
 ·rfl
theorem pups_param {H : Type} {enc : TypeId × Value -> H} {W : World} {a : Option Addr} {len cap : Nat} {d : DataW H} {p : List MemPlace} (h : DataW.Trod enc Tryz.prog W 0 (fun _ => true) true 60 (.slice a len cap) d p) (hsz : ∀ n ∈ d.weights Tryz.prog 60, n <= reachBytes) :
  ∃ ps, PupAt W (.slice a len cap) ps := by
 obtain ⟨fuel, hf⟩ := h
 have hrb := reachBytes_lt
 rcases open_slice Tryz.underlying60 hf with ⟨hcs, _⟩ | ⟨x, l, c, m, n, D, Pl, hcs, _, hl, hm, hmm, hx, hel⟩
 ·simp [Value.cells] at hcs
  obtain ⟨rfl, rfl, rfl⟩ := hcs
  exact ⟨[], none, 0, rfl, by simp, .inl rfl⟩
 ·simp [Value.cells] at hcs
  obtain ⟨rfl, rfl, rfl⟩ := hcs
  have hmc : m = cap := by simpa using hmm
  clear hmm
  subst hmc
  injection hx with hx1 _
  subst hx1
  simp only [DataW.weights, Tryz.underlying60] at hsz
  have hn56 := hsz _ List.mem_cons_self
  rw [row_pbytes] at hn56
  simp only [List.length_map, List.length_range] at hn56
  have hkey : ∀ i, i < len -> ∃ q : Pup, (-9223372036854775808 <= q.fuel /\ q.fuel <= 9223372036854775807) /\ q.inp.length <= 17592186044416 /\
    ∃ vr vi, W.cell? ((x.add (i * 3)).add 0) = some vr /\ W.cell? ((x.add (i * 3)).add 1) = some (.int .i64 q.fuel) /\ W.cell? ((x.add (i * 3)).add 2) = some vi /\ IntsAt W vr q.raw /\ IntsAt W vi q.inp := fun i hi => by
   obtain ⟨cs', hc1, hc2⟩ := hel i (by omega)
   rw [row_pcells] at hc1
   obtain ⟨_, hcl, hce⟩ := World.cells?_some hc1
   obtain ⟨y0, y1, y2, n', hD, _, t0, t1, t2⟩ := trod_struct3 Tryz.underlying69 hc2
   dsimp only at t0 t1 t2
   rw [row_scells] at t0 t2
   rw [row_icells] at t1
   match cs', hcl with
   | [z0, z1, z2], _ =>
    simp only [List.drop_zero, List.drop_succ_cons, List.take_succ_cons, List.take_zero] at t0 t1 t2
    obtain ⟨v0, ys0, e0, i0, _⟩ := ints_cells t0
    obtain ⟨f, e1, _, hwf⟩ := DataW.trod_int Tryz.underlying3 t1
    obtain ⟨v2, ys2, e2, i2, s2⟩ := ints_cells t2
    cases e0
    cases e1
    cases e2
    have hi2 : ys2.length <= 17592186044416 := by
     rcases s2 with rfl | ⟨e, s, he, hl2⟩
     ·simp
     ·have hDm : D i ∈ (List.range len).map D := List.mem_map.2 ⟨i, List.mem_range.2 hi, rfl⟩
      have hw : (e.length + s.length) * Tryz.prog.bytesOf 3 ∈ (D i).weights Tryz.prog 69 := by
       have hD1 : D i = .agg [y0.1, y1.1, y2.1] := (Prod.mk.inj hD).1
       rw [hD1]
       simp only [DataW.weights, Tryz.underlying69, List.map_cons, List.map_nil, DataW.weightsEach, he, Tryz.underlying23]
       simp
      have := hsz _ (List.mem_cons_of_mem _ (List.mem_append_left _ (weights_all hDm _ hw)))
      rw [row_bytes] at this
      omega
    exact ⟨⟨ys0, f, ys2⟩, bounds_i64 hwf, hi2, z0, z2, hce 0 (by omega), hce 1 (by omega), hce 2 (by omega), i0, i2⟩
  haveI : Inhabited Pup := ⟨⟨[], 0, []⟩⟩
  obtain ⟨F, hF⟩ := choose_lt hkey
  refine ⟨(List.range len).map F, some x, m, by simp, by simp; omega, ?_⟩
  by_cases h0 : len = 0
  ·exact .inl (by rw [h0]; rfl)
  ·obtain ⟨b, off, spot⟩ := x
   obtain ⟨_, _, vr, vi, c0, _⟩ := hF 0 (by omega)
   have hspot : spot = none := by simpa [Addr.add] using World.cell?_spot c0
   subst hspot
   rw [addr_add, addr_add] at c0
   refine .inr ⟨b, off, rfl, lt_of_cell c0, fun i q hq => ?_⟩
   have hi : i < len := by
    have := (List.getElem?_eq_some_iff.1 hq).1
    simpa using this
   have hq2 : F i = q := by
    rw [List.getElem?_map, List.getElem?_range hi] at hq
    simpa using hq
   subst hq2
   obtain ⟨g1, g2, vr, vi, c0, c1, c2, g3, g4⟩ := hF i hi
   rw [addr_add, addr_add] at c0 c1 c2
   exact ⟨g1, g2, vr, vi, c0, c1, c2, g3, g4⟩
theorem pups_size {H : Type} {ts : List TypeId} {ds : List (DataW H)} {j : Nat} {t : TypeId} {d : DataW H} (hsz : (DataW.weightsEach Tryz.prog ts ds).all (· <= reachBytes) = true) (ht : ts[j]? = some t) (hd : ds[j]? = some d) : ∀ n ∈ d.weights Tryz.prog t, n <= reachBytes := fun n hn => by
 have := List.all_eq_true.1 hsz _ (DataW.weights_mem_each ht hd n hn)
 simpa using this
theorem upL_far (ky : Nat -> Int × Int) : ∀ (f : Nat) (l : List Nat) (j k : Nat), j < k -> (upL ky f l j)[k]? = l[k]?
 | 0, _, _, _, _ => rfl
 | f + 1, l, j, k, hk => by
  rw [upL]; split
  ·rfl
  ·rw [upL_far ky f _ _ k (by omega), swapL_far (by omega) (by omega)]
theorem rest_perm {l m : List Nat} {i n : Nat} (hi : i < l.length) (hn : m.length = n + 1) (hp : m.Perm l) (hl : m[n]? = l[i]?) : (m.take n).Perm (l.eraseIdx i) := by
 have e1 : m.take (n + 1) = m := List.take_of_length_le (by omega)
 rw [List.take_add_one, hl, List.getElem?_eq_getElem hi] at e1
 have p1 : (m.take n ++ [l[i]]).Perm l := by
  have e2 : m.take n ++ [l[i]] = m := e1
  rw [e2]; exact hp
 have p2 : (l[i] :: l.eraseIdx i).Perm l := by
  have := List.perm_middle (a := l[i]) (l₁ := l.take i) (l₂ := l.drop (i + 1))
  rw [List.eraseIdx_eq_take_drop_succ]
  refine this.symm.trans ?_
  rw [List.getElem_cons_drop, List.take_append_drop]
 have p3 : (l[i] :: m.take n).Perm (m.take n ++ [l[i]]) := (List.perm_append_singleton _ _).symm
 exact ((p3.trans p1).trans p2.symm).cons_inv
section
variable {ky : Nat -> Int × Int} {rb o : Nat} {v : Value} {w w' : World} {l : List Nat}
theorem pop_last {g cap n : Nat} {m : List Nat} (h : HQ ky rb o (.slice (some ⟨g, 0, none⟩) (n + 1) cap) w m) (hm : m.length = n + 1) (hl : n <= 100) :
  Calls Tryz.prog 251 #[.pointer (some ⟨rb, o, none⟩)] w fun e w' => (∃ b, e = .returned (.iface 103 (.pointer (some ⟨b, 0, none⟩)))) /\ HQ ky rb o (.slice (some ⟨g, 0, none⟩) n cap) w' (m.take n) /\ Fr (fun b => b = rb ∨ b = g) w w' /\ Oth rb o w w' := by
 have hsp : m = m.take n ++ [m[n]'(by omega)] := by
  have e1 : m.take (n + 1) = m := List.take_of_length_le (by omega)
  rw [List.take_add_one, List.getElem?_eq_getElem (by omega)] at e1
  exact e1.symm
 have htl : (m.take n).length = n := by rw [List.length_take]; omega
 have := jpop_any (l := m.take n) (b := m[n]'(by omega)) (g := g) (cap := cap) (ky := ky) (rb := rb) (o := o) (w := w) (by rw [htl, <- hsp]; exact h) (by omega)
 refine this.mono ?_
 rintro e w3 ⟨rfl, t1, t2, t3⟩
 rw [htl] at t1
 exact ⟨⟨_, rfl⟩, t1, t2, t3⟩
theorem hrem_any {g cap : Nat} (h : HQ ky rb o (.slice (some ⟨g, 0, none⟩) l.length cap) w l) {n i : Nat} (hn : l.length = n + 1) (hl : n <= 100) (hi : i <= n) :
  Calls Tryz.prog 83 #[.iface 148 (.pointer (some ⟨rb, o, none⟩)), .int .i64 (i : Nat)] w fun e w' => (∃ x, e = .returned x) /\ ∃ l', l'.Perm (l.eraseIdx i) /\ HQ ky rb o (.slice (some ⟨g, 0, none⟩) n cap) w' l' /\ Fr (fun b => b = rb ∨ b = g) w w' /\ Oth rb o w w' := by
 have hrg : rb ≠ g := fun e => h.ne (by rw [e]; rfl)
 rw [hn] at h
 have h0 : HQ ky rb o (.slice (some ⟨g, 0, none⟩) l.length cap) w l := by rw [hn]; exact h
 have hM0 : (method 427 148 (.pointer (some ⟨rb, o, none⟩)) "Len").run Tryz.prog w = .ok (77, .slice (some ⟨g, 0, none⟩) (n + 1) cap) w := method_val mRow_len 426 _ _ _ h.cel
 have hM1 : (method 427 148 (.pointer (some ⟨rb, o, none⟩)) "Swap").run Tryz.prog w = .ok (249, .slice (some ⟨g, 0, none⟩) (n + 1) cap) w := method_val mRow_swap 426 _ _ _ h.cel
 have hM2 : ∀ w, (method 427 148 (.pointer (some ⟨rb, o, none⟩)) "Pop").run Tryz.prog w = .ok (251, .pointer (some ⟨rb, o, none⟩)) w := fun w => method_ptr mRow_pop 426 _ _
 have hrl : rb < w.heap.size := lt_of_cell h.cel
 by_cases hin : n = i
 ·subst hin
  have hPc := pop_last h hn hl
  have HP : Hid ((l.take n).Perm (l.eraseIdx n)) := rest_perm (by omega) hn (List.Perm.refl _) rfl
  clear h h0
  go_enter Tryz.func83, Tryz.ntmps83
  go_wp2_with (first
   | (go_at_call 77; refine (hlen_any _ _ _ _).mono ?_; rintro e w2 ⟨rfl, h9⟩; cases h9)
   | (go_at_call 251; refine hPc.mono ?_; rintro e w5 ⟨⟨b5, rfl⟩, h5, h6, h7⟩))
  go_ret
  exact ⟨⟨_, rfl⟩, _, HP.out, h5, h6, h7⟩
 have hini : ¬ (n : Int) = (i : Int) := by omega
 have hS := h0.hs.swaps (i := i) (j := n) (by omega) (by omega)
 rw [hn] at hS
 have hsl : (swapL l i n).length = n + 1 := by rw [swapL_len]; exact hn
 obtain ⟨D, hD⟩ : ∃ D, downL ky n (n - i + 1) (swapL l i n) i = D := ⟨_, rfl⟩
 have hDl : D.1.length = n + 1 := by rw [<- hD, downL_len]; exact hsl
 have hDp : D.1.Perm l := by rw [<- hD]; exact (downL_perm ky _ _ _ _ (by omega)).trans (swapL_perm (by omega) (by omega))
 have hlast : D.1[n]? = l[i]? := by
  rw [<- hD, downL_far ky n _ _ _ n (Nat.le_refl _)]
  unfold swapL
  rw [List.getElem?_set_self (by simp; omega), List.getElem?_eq_getElem (by omega)]
  simp [List.getD, show i < l.length by omega]
 have hup : (upL ky (i + 1) D.1 i).length = n + 1 := by rw [upL_len]; exact hDl
 have HP1 : Hid ((D.1.take n).Perm (l.eraseIdx i)) := rest_perm (by omega) hDl hDp hlast
 have HP2 : Hid (((upL ky (i + 1) D.1 i).take n).Perm (l.eraseIdx i)) := rest_perm (by omega) hup ((upL_perm ky _ _ _ (by omega)).trans hDp) ((upL_far ky _ _ _ _ (by omega)).trans hlast)
 have HDn : ∀ w1, HS ky g cap w1 (swapL l i n) -> Fr (fun b => b = g) w w1 -> Calls Tryz.prog 115 #[.iface 148 (.pointer (some ⟨rb, o, none⟩)), .int .i64 (i : Nat), .int .i64 (n : Nat)] w1 fun e w' => e = .returned (.bool (decide (i < D.2))) /\ Hid (HQ ky rb o (.slice (some ⟨g, 0, none⟩) (n + 1) cap) w' D.1) /\ Fr (fun b => b = g) w1 w' := fun w1 h1 h2 => by
  have h3 := h0.ofHs h1 h2 (by rw [swapL_len]) (fun b hb => mem_swap (by omega) (by omega) hb)
  have := down_any h1 h3.cel hrg (i0 := i) (n := n) (by omega) (by omega) (by omega)
  rw [hD] at this
  refine this.mono ?_
  rintro e w2 ⟨rfl, t1, t2⟩
  have h4 := h3.ofHs t1 t2 (by rw [hDl, hsl]) (fun b hb => by rw [<- hD] at hb; exact (downL_perm ky _ _ _ _ (by omega)).mem_iff.1 hb)
  rw [hDl] at h4
  exact ⟨rfl, h4, t2⟩
 have HUp : ∀ w1, HQ ky rb o (.slice (some ⟨g, 0, none⟩) (n + 1) cap) w1 D.1 -> Calls Tryz.prog 116 #[.iface 148 (.pointer (some ⟨rb, o, none⟩)), .int .i64 (i : Nat)] w1 fun e w' => e = .returned (.tuple #[]) /\ Hid (HQ ky rb o (.slice (some ⟨g, 0, none⟩) (n + 1) cap) w' (upL ky (i + 1) D.1 i)) /\ Fr (fun b => b = g) w1 w' := fun w1 h1 => by
  have h3 : HQ ky rb o (.slice (some ⟨g, 0, none⟩) D.1.length cap) w1 D.1 := by rw [hDl]; exact h1
  refine (up_any h3.hs h3.cel hrg (j := i) (by omega) (by omega)).mono ?_
  rintro e w2 ⟨rfl, t1, t2⟩
  have h4 := h3.ofHs t1 t2 (by rw [upL_len]) (fun b hb => (upL_perm ky _ _ _ (by omega)).mem_iff.1 hb)
  rw [hup] at h4
  exact ⟨rfl, h4, t2⟩
 have HPa : ∀ w2, HQ ky rb o (.slice (some ⟨g, 0, none⟩) (n + 1) cap) w2 D.1 -> _ := fun w2 h2 => pop_last h2 hDl hl
 have HPb : ∀ w2, HQ ky rb o (.slice (some ⟨g, 0, none⟩) (n + 1) cap) w2 (upL ky (i + 1) D.1 i) -> _ := fun w2 h2 => pop_last h2 hup hl
 clear h h0 hD hDp hlast
 generalize upL ky (i + 1) D.1 i = U at *
 generalize decide (i < D.2) = B at *
 cases B with
 | true =>
  go_enter Tryz.func83, Tryz.ntmps83
  go_wp2_with (first
   | (go_at_call 77; refine (hlen_any _ _ _ _).mono ?_; rintro e w2 ⟨rfl, h9⟩; cases h9)
   | (go_at_call 249; refine hS.mono ?_; rintro e w3 ⟨rfl, h1, h2⟩; have hDc := HDn _ h1 h2)
   | (go_at_call 115; refine hDc.mono ?_; rintro e w4 ⟨rfl, h3, h4⟩; have hPc := HPa _ h3.out)
   | (go_at_call 251; refine hPc.mono ?_; rintro e w5 ⟨⟨b5, rfl⟩, h5, h6, h7⟩))
  go_ret
  exact ⟨⟨_, rfl⟩, _, HP1.out, h5, ((h2.trans h4).weak fun k _ e => .inr e).trans h6, (Oth.of_block ((h2.trans h4).block rb hrl hrg)).trans h7⟩
 | false =>
  go_enter Tryz.func83, Tryz.ntmps83
  go_wp2_with (first
   | (go_at_call 77; refine (hlen_any _ _ _ _).mono ?_; rintro e w2 ⟨rfl, h9⟩; cases h9)
   | (go_at_call 249; refine hS.mono ?_; rintro e w3 ⟨rfl, h1, h2⟩; have hDc := HDn _ h1 h2)
   | (go_at_call 115; refine hDc.mono ?_; rintro e w4 ⟨rfl, h3, h4⟩; have hUc := HUp _ h3.out)
   | (go_at_call 116; refine hUc.mono ?_; rintro e w6 ⟨rfl, h8, h10⟩; have hPc := HPb _ h8.out)
   | (go_at_call 251; refine hPc.mono ?_; rintro e w5 ⟨⟨b5, rfl⟩, h5, h6, h7⟩))
  go_ret
  exact ⟨⟨_, rfl⟩, _, HP2.out, h5, (((h2.trans h4).trans h10).weak fun k _ e => .inr e).trans h6, (Oth.of_block (((h2.trans h4).trans h10).block rb hrl hrg)).trans h7⟩
end
theorem perm_map_inv {f : Nat -> Nat} : ∀ {l : List Nat} {m : List Nat}, l.Perm (m.map f) -> ∃ k : List Nat, k.Perm m /\ k.map f = l
 | [], m, h => by
  have h1 := h.length_eq
  rw [List.length_map] at h1
  have : m = [] := List.length_eq_zero_iff.1 h1.symm
  subst this
  exact ⟨[], List.Perm.refl _, rfl⟩
 | b :: l, m, h => by
  have hb : b ∈ m.map f := h.mem_iff.1 (List.mem_cons_self ..)
  obtain ⟨a, ha, rfl⟩ := List.mem_map.1 hb
  have p1 : m.Perm (a :: m.erase a) := List.perm_cons_erase ha
  have p2 : (f a :: l).Perm (f a :: (m.erase a).map f) := h.trans (p1.map f)
  obtain ⟨k, k1, k2⟩ := perm_map_inv p2.cons_inv
  exact ⟨a :: k, (k1.cons a).trans p1.symm, by rw [List.map_cons, k2]⟩
def dropP (a : PRm) (i : Nat) (P : PJ) (hp : List Nat) : PRm := ⟨a.js.set i { P with done := true }, hp⟩
theorem drop_pg {E : Nat -> MS} {a : PRm} (h : PG E a) {i at_ : Nat} {P : PJ} (hi : a.js[i]? = some P) (hat : a.hp[at_]? = some i) {hp : List Nat} (hp2 : hp.Perm (a.hp.eraseIdx at_)) : PG E (dropP a i P hp) := by
 have hil : i < a.js.length := (List.getElem?_eq_some_iff.1 hi).1
 have hset := set_at hil { P with done := true }
 have hal : at_ < a.hp.length := (List.getElem?_eq_some_iff.1 hat).1
 have hae : a.hp[at_] = i := (List.getElem?_eq_some_iff.1 hat).2
 have p2 : a.hp.Perm (i :: a.hp.eraseIdx at_) := by
  have := List.perm_middle (a := a.hp[at_]) (l₁ := a.hp.take at_) (l₂ := a.hp.drop (at_ + 1))
  rw [List.getElem_cons_drop, List.take_append_drop, <- List.eraseIdx_eq_take_drop_succ, hae] at this
  exact this
 have p3 : a.hp.Perm (i :: hp) := p2.trans (hp2.symm.cons i)
 have hnd := List.nodup_cons.1 (p3.nodup_iff.1 h.nd)
 have hlen := p3.length_eq
 rw [List.length_cons] at hlen
 have h5 := h.h5
 refine ⟨fun j hj => ?_, hnd.2, fun j Q hj hq => ?_, fun j Q hj => ?_, by show (a.js.set i _).length <= 5; simpa using h.l5, by show hp.length <= 5; omega⟩
 ·have hj2 : j ∈ hp := hj
  have e : i ≠ j := fun e => hnd.1 (e ▸ hj2)
  obtain ⟨Q, q1, q2⟩ := h.hin j (p3.mem_iff.2 (List.mem_cons_of_mem _ hj2))
  exact ⟨Q, by show (a.js.set i _)[j]? = _; rw [hset, if_neg e]; exact q1, q2⟩
 ·have hj' : (a.js.set i { P with done := true })[j]? = some Q := hj
  rw [hset] at hj'
  by_cases e : i = j
  ·rw [if_pos e] at hj'; cases hj'; cases hq
  ·rw [if_neg e] at hj'
   rcases List.mem_cons.1 (p3.mem_iff.1 (h.all j Q hj' hq)) with e2 | e2
   ·exact absurd e2.symm e
   ·exact e2
 ·have hj' : (a.js.set i { P with done := true })[j]? = some Q := hj
  rw [hset] at hj'
  by_cases e : i = j
  ·subst e
   rw [if_pos rfl] at hj'
   cases hj'
   have g := h.good i P hi
   exact ⟨g.rch, g.fin, g.ca, g.us, g.fu, g.wl, g.wk⟩
  ·rw [if_neg e] at hj'
   exact h.good j Q hj'
def NumP (a : PRm) : Prop := ∀ i P, a.js[i]? = some P -> P.num = i + 1
theorem rds_done {sl k : Nat} {a b : PRm} {l : List Nat} {i : Nat} {P : PJ} (h : Rds sl k a b l) : NumP a -> a.js[i]? = some P -> P.done = true -> NumP b /\ b.js[i]? = some P /\ i + 1 ∉ l := by
 induction h with
 | zero a => exact fun h1 h2 _ => ⟨h1, h2, by simp⟩
 | @succ k a b c l o _ h9 ih =>
  intro h1 h2 h3
  obtain ⟨g1, g2, g3⟩ := ih h1 h2 h3
  cases h9 with
  | none js => exact ⟨g1, g2, by simpa using g3⟩
  | @turn js i0 n t Q m' bb q1 q2 q3 =>
   have hil : i0 < js.length := (List.getElem?_eq_some_iff.1 q1).1
   have hset := set_at hil (Q.after m')
   have hne : i0 ≠ i := fun e => by
    subst e
    have g2' : js[i0]? = some P := g2
    rw [q1] at g2'
    cases g2'
    rw [q2] at h3
    cases h3
   have hqn := g1 i0 Q q1
   refine ⟨fun j X hj => ?_, ?_, fun hm => ?_⟩
   ·have hj' : (js.set i0 (Q.after m'))[j]? = some X := hj
    rw [hset] at hj'
    by_cases e : i0 = j
    ·subst e; rw [if_pos rfl] at hj'; cases hj'; exact hqn
    ·rw [if_neg e] at hj'; exact g1 j X hj'
   ·show (js.set i0 (Q.after m'))[i]? = _
    rw [hset, if_neg hne]; exact g2
   ·rcases List.mem_append.1 hm with hm | hm
    ·exact g3 hm
    ·cases ho : m'.over.isSome with
     | true => rw [ho] at hm; simp at hm; omega
     | false => rw [ho] at hm; simp at hm
end Go.Proofs.YtklobognaldjpaaGreat
