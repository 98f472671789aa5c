/- Plain: Run by evaluation, of a text that is written out. What package lecternkeep does: sameInts, is. What package lecternkeep does: running. Rooms: how a job stands. Rooms: Job. -/
import Derived.Test.YtklobognaldjpaaGreatCEv1
import Derived.Test.YtklobognaldjpaaGreatCNw1
import Derived.Test.YtklobognaldjpaaGreatCRun2
import Derived.Test.YtklobognaldjpaaGreatCRn2
import Derived.Test.YtklobognaldjpaaGreatCKp2
set_option maxRecDepth 1000000
set_option maxHeartbeats 2000000
namespace Go.Proofs.YtklobognaldjpaaGreat
def treeE (l : List UInt8) : Pr := match lexF l.length l (gapF l.length l 0) with
  | .ok T => (programP T ⟨0, 0, 0⟩).1
  | .error _ => ⟨[], []⟩
theorem treeE_eq (l : List UInt8) : treeE l = treeOf l := by
  unfold treeE treeOf lexAll
  rw [gapF_eq _ _ _ (by omega), lexF_eq _ _ _ (by omega)]
  rfl
open Go.RowKit
theorem below_drewN {B : Nat} {a w : World} (n : Nat) (h : Below B a w) : Below B a (w.drewN n) := ⟨h.os, h.tape, h.output, h.size, h.block⟩
def IntsC (w : World) (v : Value) (zs : List Int) : Prop :=
  ∃ a cap, v = .slice a zs.length cap ∧ zs.length ≤ 1000000 ∧
    (zs = [] ∨ ∃ b off, a = some ⟨b, off, none⟩ ∧ b < w.heap.size ∧ ∀ i, i < zs.length → w.cell? ⟨b, off + i, none⟩ = some (.int .i64 (zs.getD i 0)))
theorem IntsC.below {w w' : World} {v : Value} {zs : List Int} (h : IntsC w v zs) (hb : Below w.heap.size w w') : IntsC w' v zs := by
  obtain ⟨a, cap, rfl, h1, h3⟩ := h
  refine ⟨a, cap, rfl, h1, ?_⟩
  rcases h3 with h3 | ⟨b, off, rfl, hl, h3⟩
  · exact .inl h3
  · refine .inr ⟨b, off, rfl, Nat.lt_of_lt_of_le hl hb.size, fun i hi => ?_⟩
    rw [hb.cell (p := ⟨b, off + i, none⟩) hl]
    exact h3 i hi
theorem IntsC.own {w : World} {base : Nat} {a : Option Addr} {cap : Nat} {zs : List Int} (h : w.ownsRow base 3 1 (.slice a zs.length cap) zs.length (zs.map (.int .i64))) (hl : zs.length ≤ 1000000) : IntsC w (.slice a zs.length cap) zs := by
  refine ⟨a, cap, rfl, hl, ?_⟩
  by_cases h0 : zs = []
  · exact .inl h0
  · obtain ⟨tb, cap2, e, hb, hlt⟩ := h.form (List.length_pos_iff.2 h0)
    cases e
    refine .inr ⟨tb, 0, rfl, hlt, fun i hi => ?_⟩
    have := h.cellAt i (by simpa using hi)
    rw [Nat.zero_add, this, List.getElem?_map, List.getElem?_eq_getElem hi]
    simp [List.getD, hi]
theorem sameInts_any (va vb : Value) (xs ys : List Int) (w : World) (hx : IntsC w va xs) (hy : IntsC w vb ys) :
    Calls Tryz.prog 36 #[va, vb] w fun e w' => e = .returned (.bool (decide (xs = ys))) ∧ Below w.heap.size w w' := by
  obtain ⟨a, ca, rfl, hxl, hxc⟩ := hx
  obtain ⟨b, cb, rfl, hyl, hyc⟩ := hy
  have HX : Hid _ := hxc
  have HY : Hid _ := hyc
  clear hxc hyc
  by_cases hlen : xs.length = ys.length
  · have hl2 : (xs.length : Int) = ys.length := by omega
    go_enter Tryz.func36, Tryz.ntmps36
    go_wp2
    go_loopw [5] (fun i wr => ∃ j : Nat, i = .int .i64 j ∧ j ≤ xs.length ∧ Hid (xs.take j = ys.take j) ∧ Below w.heap.size w wr) (fun i _ => xs.length - (intOf i).toNat)
    case atStart => exact ⟨0, rfl, Nat.zero_le _, rfl, Below.refl _ _⟩
    case round =>
      obtain ⟨j, rfl, hj, HT, hB⟩ := hrel
      by_cases hlt : j < xs.length
      · rcases HX.out with h0 | ⟨bx, ox, rfl, hbx, hcx⟩
        · rw [h0] at hlt; simp at hlt
        rcases HY.out with h0 | ⟨by_, oy, rfl, hby, hcy⟩
        · rw [h0] at hlen; simp at hlen; rw [hlen] at hlt; simp at hlt
        have hlt2 : j < ys.length := by omega
        have c1 : wr.cell? ⟨bx, ox + j, none⟩ = some (.int .i64 xs[j]) := by
          rw [hB.cell (p := ⟨bx, ox + j, none⟩) hbx, hcx j hlt]; simp [List.getD, hlt]
        have c2 : wr.cell? ⟨by_, oy + j, none⟩ = some (.int .i64 ys[j]) := by
          rw [hB.cell (p := ⟨by_, oy + j, none⟩) hby, hcy j hlt2]; simp [List.getD, hlt2]
        have HS : Hid (xs[j] = ys[j] → xs.take (j + 1) = ys.take (j + 1)) := fun e => by
          have e1 : xs.take (j + 1) = xs.take j ++ [xs[j]] := by rw [List.take_add_one, List.getElem?_eq_getElem hlt]; rfl
          have e2 : ys.take (j + 1) = ys.take j ++ [ys[j]] := by rw [List.take_add_one, List.getElem?_eq_getElem hlt2]; rfl
          rw [e1, e2, HT.out, e]
        have HN : Hid (xs[j] ≠ ys[j] → xs ≠ ys) := fun h e => h (by subst e; rfl)
        have hjl : (j : Int) < (xs.length : Int) := by omega
        have hjl2 : (j : Int) < (ys.length : Int) := by omega
        clear hcx hcy
        generalize xs[j] = x at *
        generalize ys[j] = y at *
        by_cases he : x = y
        · have HU : Hid (xs.take (j + 1) = ys.take (j + 1)) := HS.out he
          clear HS HN
          subst he
          go_wp2
          go_quiet (fail)
          go_wp2
          go_roundw
          case rel => exact ⟨j + 1, by go_num, by omega, HU.out, below_drewN _ hB⟩
          case measure => simp [intOf]; omega
        · go_wp2
          go_quiet (fail)
          go_wp2
          go_ret
          exact ⟨congrArg (fun b => Ending.returned (.bool b)) (decide_eq_false (HN.out he)).symm, below_drewN _ hB⟩
      · have ej : j = xs.length := by omega
        subst ej
        have hq : ys.take xs.length = ys := by rw [hlen, List.take_length]
        have HE : Hid (xs = ys) := by
          have := HT.out
          rw [List.take_length, hq] at this
          exact this
        go_wp2
        go_ret
        exact ⟨congrArg (fun b => Ending.returned (.bool b)) (decide_eq_true HE.out).symm, hB⟩
  · have hl2 : ¬ (xs.length : Int) = ys.length := by omega
    have HN : Hid (xs ≠ ys) := fun e => hlen (by rw [e])
    go_enter Tryz.func36, Tryz.ntmps36
    go_wp2
    go_ret
    exact ⟨congrArg (fun b => Ending.returned (.bool b)) (decide_eq_false HN.out).symm, Below.refl _ _⟩
def OutAt (w : World) (v : Value) (o : Nat × List Int × Nat) : Prop := ∃ u, v = .agg #[.int .i64 (o.1 : Nat), u, .int .i64 (o.2.2 : Nat)] ∧ IntsC w u o.2.1
theorem OutAt.below {w w' : World} {v : Value} {o : Nat × List Int × Nat} (h : OutAt w v o) (hb : Below w.heap.size w w') : OutAt w' v o := by
  obtain ⟨u, rfl, h⟩ := h
  exact ⟨u, rfl, h.below hb⟩
theorem IntsAt.c {w : World} {v : Value} {zs : List Int} (h : IntsAt w v zs) (hl : zs.length ≤ 1000000) : IntsC w v zs := by
  obtain ⟨a, cap, rfl, _, _, h3⟩ := h
  exact ⟨a, cap, rfl, hl, h3⟩
theorem IntsAt.nil (w : World) : IntsAt w (.slice none 0 0) [] := ⟨none, 0, rfl, by simp, by simp, .inl rfl⟩
theorem ints_new {W : World} {n : Nat} (hn : n = W.heap.size) (zs : List Int) (hl : zs.length ≤ 1000) (hz : ∀ n ∈ zs, -9223372036854775808 ≤ n ∧ n ≤ 9223372036854775807) :
    IntsAt (W.alloc (.cells (zs.map (Value.int .i64)).toArray 3)) (.slice (some ⟨n, 0, none⟩) zs.length zs.length) zs := by
  subst hn
  refine ⟨_, _, rfl, by unfold maxLen; omega, hz, .inr ⟨_, 0, rfl, by simp, fun i hi => ?_⟩⟩
  rw [World.cell?_alloc_new W _ _ (0 + i), Nat.zero_add]
  simp [List.getD, hi]
theorem run_is {l : List UInt8} {v : Value} {zs : List Int} {fuel : Int} {w : World} {o : Nat × List Int × Nat} (hc : (checkP l).1 = 0) (ho : outcome (treeOf l) zs fuel.toNat = o) (hf : 0 ≤ fuel ∧ fuel ≤ 3000) (hok : okIn zs = true) (hin : IntsAt w v zs) (hl : zs.length ≤ 35184372088831) :
    Calls Tryz.prog 19 #[.string ⟨l.toArray⟩, v, .int .i64 fuel] w fun e w' => Below w.heap.size w w' ∧ ∃ oa oc, e = .returned (.tuple #[.agg #[.int .i64 (o.1 : Nat), .slice oa o.2.1.length oc, .int .i64 (o.2.2 : Nat)], .int .i64 0, .int .i64 0]) ∧ OutAt w' (.agg #[.int .i64 (o.1 : Nat), .slice oa o.2.1.length oc, .int .i64 (o.2.2 : Nat)]) o := by
  refine (run_any ⟨l.toArray⟩ v zs fuel w hin hl).mono ?_
  rintro e w' ⟨hb, h⟩
  have el : (⟨l.toArray⟩ : ByteArray).data.toList = l := rfl
  rw [el] at h
  rcases h with h | h | h | h
  · exact absurd hc h.1
  · exact absurd hf h.2.1
  · rw [hok] at h; cases h.2.2.1
  · obtain ⟨_, _, _, oa, oc, he, how, h60⟩ := h
    rw [ho] at he how h60
    exact ⟨hb, oa, oc, he, _, rfl, IntsC.own how (by omega)⟩
theorem r_one {n m : Int} (h1 : -9223372036854775808 ≤ n) (h2 : n ≤ 9223372036854775807) : m ∈ [n] → -9223372036854775808 ≤ m ∧ m ≤ 9223372036854775807 := by
  intro h
  simp at h
  subst h
  exact ⟨h1, h2⟩
theorem below_one {W w2 : World} {A : Obj} (h : Below (W.alloc A).heap.size (W.alloc A) w2) : Below W.heap.size W w2 :=
  ((Below.refl _ _).alloc (Nat.le_refl _) _).trans (h.mono (by simp))
theorem below_two {W w2 : World} {A B : Obj} (h : Below ((W.alloc A).alloc B).heap.size ((W.alloc A).alloc B) w2) : Below W.heap.size W w2 :=
  below_one (below_one h)
theorem kept_one {W w2 : World} {xs : Array Value} {t : TypeId} (h : Below (W.alloc (.cells xs t)).heap.size (W.alloc (.cells xs t)) w2) (k : Nat) : w2.cell? ⟨W.heap.size, k, none⟩ = xs[k]? := by
  rw [h.cell (p := ⟨W.heap.size, k, none⟩) (by simp)]
  exact World.cell?_alloc_new W _ _ k
theorem kept_two {W w2 : World} {xs : Array Value} {t : TypeId} {B : Obj} (h : Below ((W.alloc (.cells xs t)).alloc B).heap.size ((W.alloc (.cells xs t)).alloc B) w2) (k : Nat) : w2.cell? ⟨W.heap.size, k, none⟩ = xs[k]? :=
  kept_one (below_one h) k
theorem up_two (W : World) (A B : Obj) : Below W.heap.size W ((W.alloc A).alloc B) := ((Below.refl _ _).alloc (Nat.le_refl _) _).alloc (by simp) _
theorem two_cells {w w3 : World} {xs ys : Array Value} {s t : TypeId} (h : Below ((w.alloc (.cells xs s)).alloc (.cells ys t)).heap.size ((w.alloc (.cells xs s)).alloc (.cells ys t)) w3) :
    (∀ j u, xs[j]? = some u → w3.cell? ⟨w.heap.size, j, none⟩ = some u) ∧ (∀ j u, ys[j]? = some u → w3.cell? ⟨w.heap.size + 1, j, none⟩ = some u) ∧ (∀ j, w3.frozen? ⟨w.heap.size, j, none⟩ = false) ∧ (∀ j, w3.frozen? ⟨w.heap.size + 1, j, none⟩ = false) := by
  have b1 : Below (w.alloc (.cells xs s)).heap.size (w.alloc (.cells xs s)) ((w.alloc (.cells xs s)).alloc (.cells ys t)) := (Below.refl _ _).alloc (Nat.le_refl _) _
  have hs : (w.alloc (.cells xs s)).heap.size = w.heap.size + 1 := by simp
  have c2 := World.cell?_alloc_new (w.alloc (.cells xs s)) ys t
  have f2 := World.frozen?_alloc_new (w.alloc (.cells xs s)) ys t
  rw [hs] at c2 f2
  refine ⟨fun j u hj => ?_, fun j u hj => ?_, fun j => ?_, fun j => ?_⟩
  · rw [h.cell (p := ⟨w.heap.size, j, none⟩) (by simp; omega), b1.cell (p := ⟨w.heap.size, j, none⟩) (by simp), World.cell?_alloc_new]; exact hj
  · rw [h.cell (p := ⟨w.heap.size + 1, j, none⟩) (by simp), c2]; exact hj
  · rw [h.frozen (p := ⟨w.heap.size, j, none⟩) (by simp; omega), b1.frozen (p := ⟨w.heap.size, j, none⟩) (by simp)]; exact World.frozen?_alloc_new _ _ _ _
  · rw [h.frozen (p := ⟨w.heap.size + 1, j, none⟩) (by simp)]; exact f2 j
theorem row_base {w : World} {base base' : Nat} {e : TypeId} {size : Nat} {v : Value} {n : Nat} {xs : List Value} (h : w.ownsRow base e size v n xs) (hb : base' ≤ base) : w.ownsRow base' e size v n xs := by
  obtain ⟨h1, h2⟩ := h
  refine ⟨h1, ?_⟩
  rcases h2 with h2 | ⟨g, cap, cur, hv, hg, r⟩
  · exact .inl h2
  · exact .inr ⟨g, cap, cur, hv, Nat.le_trans hb hg, r⟩
theorem below_setR {b k o : Nat} {v : Value} {w w' : World} (h : Below b w w') (hk : b ≤ k) : Below b w (w'.setCell ⟨k, o, none⟩ v) :=
  ⟨h.os, h.tape, h.output, Nat.le_trans h.size (by simp [World.setCell]), fun i hi => by rw [Below.heap_setCell _ _ _ _ (show i ≠ k by omega)]; exact h.block i hi⟩
theorem below_two2 {W w2 : World} {A B : Obj} (h : Below ((W.alloc A).alloc B).heap.size ((W.alloc A).alloc B) w2) : Below W.heap.size W w2 :=
  (((Below.refl _ _).alloc (Nat.le_refl _) _).alloc (by simp) _).trans (h.mono (by simp; omega))
section
variable {w w' w1 : World} {rb sl : Nat} {vj v vj' v' : Value} {Js Js' : List JM} {hp hp' : List Nat} {J : JM}
theorem clone_any {vo : Value} {xs : List Int} (h : w.ownsRow 0 3 1 vo xs.length (xs.map (.int .i64))) (hl : xs.length ≤ 60) :
    Calls Tryz.prog 81 #[vo] w fun e w' => ∃ oa oc, e = .returned (.slice oa xs.length oc) ∧ w'.ownsRow w.heap.size 3 1 (.slice oa xs.length oc) xs.length (xs.map (.int .i64)) ∧ Below w.heap.size w w' := by
  obtain ⟨i0, hi, hz0, hz1, hz2⟩ := info_parts Tryz.infoIntC
  have q22 : ∀ (w : World) (a : Option Addr) (n c n' c' : Nat), (binOp .eql 23 (.slice a n c) (.slice none n' c')).run Tryz.prog w = .ok (.bool a.isNone) w := fun w a n c n' c' => Lib.run_eql_slice_nil w _ _ a n c n' c' Tryz.underlying23
  rcases h.2 with ⟨h1, h2⟩ | ⟨g, cap, cur, hv, _⟩
  · have hx : xs = [] := List.eq_nil_of_length_eq_zero h2
    subst hx
    rw [h1]
    clear h
    go_enter Tryz.func81, Tryz.ntmps81
    go_wp2
    go_ret
    exact ⟨none, 0, rfl, World.ownsRow_nil _ _ _ _, Below.refl _ _⟩
  · subst hv
    have HC : Hid (∀ A, ∀ j u, (xs.map (Value.int .i64))[j]? = some u → (w.alloc A).cell? ((⟨g, 0, none⟩ : Addr).add j) = some u) := fun A j u hj => by
      have := (h.alloc A).cells (g := g) rfl j u hj
      exact this
    clear h
    go_enter Tryz.func81, Tryz.ntmps81
    go_wp2_with (at_builtin; go_loud (refine wpList_append_own2 rfl _ _ 23 rfl w.heap.size 3 i0 _ 1 8 Tryz.underlying23 hi hz0 hz1 hz2 rfl (by decide) _ _ _ rfl (World.ownsRow_made w #[] 0 (Nat.le_refl _) (Nat.zero_le _) rfl) ⟨g, 0, none⟩ xs.length cap (xs.map (Value.int .i64)) rfl (by simp) (HC.out _) (by intro u hu; obtain ⟨x, _, rfl⟩ := List.mem_map.1 hu; rfl) (by unfold maxLen; omega) (by omega) (by simp) ?_); go_loud (intro v' w5 hown5 hg5 hn5; have hown6 : w5.ownsRow w.heap.size 3 1 v' xs.length (xs.map (Value.int .i64)) := (by rw [Nat.zero_add] at hown5; exact hown5); have HN5 : Hid (w5.ownsRow w.heap.size 3 1 v' xs.length (xs.map (Value.int .i64)) ∧ Below w.heap.size w w5) := ⟨hown6, ((Below.refl _ w).alloc (Nat.le_refl _) _).trans ⟨hg5.os, hg5.tape, hg5.output, hg5.size, fun k hk => hg5.block k (by simp; omega) (fun e => by have e2 : k = w.heap.size := Option.some.inj e; omega)⟩⟩; obtain ⟨oa, oc, hvv⟩ := owned_slice HN5.out.1; subst hvv))
    go_ret
    exact ⟨oa, oc, rfl, HN5.out.1, HN5.out.2⟩
theorem JobAt.outs (h : JobAt w J) : w.ownsRow 0 3 1 J.ov J.m.out.length (J.m.out.map (.int .i64)) := by
  rcases h.ouv with e | ⟨e1, e2⟩
  · rw [e]; exact h.mc.rows.ou
  · rw [e1, e2]; exact World.ownsRow_nil _ _ _ _
def JM.told (J : JM) : Nat × List Int × Nat := (J.m.over.getD 0, J.m.out, J.m.used)
theorem outcome_any (h : JobAt w J) : Calls Tryz.prog 63 #[.pointer (some ⟨J.jb, 0, none⟩)] w fun e w' => ∃ oa oc, e = .returned (.agg #[.int .i64 ((J.m.over.getD 0 : Nat) : Int), .slice oa J.m.out.length oc, .int .i64 (J.m.used : Nat)]) ∧ J.m.out.length ≤ oc ∧ Hid (w'.ownsRow w.heap.size 3 1 (.slice oa J.m.out.length oc) J.m.out.length (J.m.out.map (.int .i64))) ∧ Below w.heap.size w w' := by
  have c1 := h.cel 1 _ rfl
  have c2 := h.cel 2 _ rfl
  have c3 := h.cel 3 _ rfl
  have hl60 := h.mc.rows.o60
  obtain ⟨va, vc, hv, _⟩ := owned_row h.outs
  rw [hv] at c2
  have hjl := h.lt
  have HC : Hid (∀ W, Below w.heap.size w W → Calls Tryz.prog 81 #[.slice va J.m.out.length vc] W fun e w' => ∃ oa oc, e = .returned (.slice oa J.m.out.length oc) ∧ J.m.out.length ≤ oc ∧ Hid (w'.ownsRow W.heap.size 3 1 (.slice oa J.m.out.length oc) J.m.out.length (J.m.out.map (.int .i64))) ∧ Below W.heap.size W w') := fun W hb => by
    have := clone_any (w := W) (vo := J.ov) (xs := J.m.out) (h.below hb).outs hl60
    rw [hv] at this
    refine this.mono ?_
    rintro e w' ⟨oa, oc, rfl, h1, h2⟩
    obtain ⟨_, _, e2, h3⟩ := owned_row h1
    cases e2
    exact ⟨oa, oc, rfl, h3, h1, h2⟩
  generalize hn : J.m.out.length = n at *
  clear h hv
  go_enter Tryz.func63, Tryz.ntmps63
  go_wp2_with (go_at_call 81; go_loud (refine (HC.out _ (((Below.refl _ _).alloc (Nat.le_refl _) _).alloc (by simp) _)).mono ?_); rintro e w3 ⟨oa, oc, rfl, hoc, HW, hb3⟩; obtain ⟨t1, t2, t3, t4⟩ := two_cells hb3; have r0 := t1 0 _ rfl; have r1 := t1 1 _ rfl; have r2 := t1 2 _ rfl; have s0 := t2 0 _ rfl; have s1 := t2 1 _ rfl; have s2 := t2 2 _ rfl; have f0 := t3 0; have f1 := t3 1; have f2 := t3 2; have f4 := t4 1; clear t1 t2 t3 t4)
  refine bodyPost_ret (v := .agg #[.int .i64 ((J.m.over.getD 0 : Nat) : Int), .slice oa n oc, .int .i64 (J.m.used : Nat)]) (by simp [results, Tryz.results63, go_sem, r0, r1, r2]) rfl ?_
  go_light
  refine ⟨oa, oc, rfl, hoc, row_base (ownsRow_setCell_below (ownsRow_setCell_below (ownsRow_setCell_below (ownsRow_setCell_below HW.out (by simp) _) (by simp; omega) _) (by simp; omega) _) (by simp; omega) _) (by simp; omega), below_setR (below_setR (below_setR (below_setR (below_two2 hb3) (by omega)) (by omega)) (by omega)) (by omega)⟩
theorem find_any (h : RoomAt w rb sl vj v Js hp) (hJl : Js.length ≤ 5) {i : Nat} (hi : Js[i]? = some J) : Calls Tryz.prog 61 #[.pointer (some ⟨rb, 0, none⟩), .int .i64 ((i : Int) + 1)] w fun e w' => e = .returned (.pointer (some ⟨J.jb, 0, none⟩)) ∧ w' = w := by
  have hil : i < Js.length := (List.getElem?_eq_some_iff.1 hi).1
  obtain ⟨g, cap, hv, _, _⟩ := h.rj.form (by omega)
  have c1 := h.c1
  rw [hv] at c1
  have gi : w.cell? ⟨g, i, none⟩ = some (.pointer (some ⟨J.jb, 0, none⟩)) := by
    have := h.rj
    rw [hv] at this
    rw [this.cellAt i (by omega), List.getElem?_map, hi]; rfl
  clear h hv hi
  generalize Js.length = n at *
  have e1 : ¬ (i : Int) + 1 < 1 := by omega
  have e2 : ¬ (i : Int) + 1 > (n : Int) := by omega
  have e3 : (i : Int) < (n : Int) := by omega
  go_enter Tryz.func61, Tryz.ntmps61
  go_wp2
  go_ret
  exact ⟨rfl, rfl⟩
end
theorem one_cells {w w3 : World} {xs : Array Value} {s : TypeId} (h : Below (w.alloc (.cells xs s)).heap.size (w.alloc (.cells xs s)) w3) :
    (∀ j u, xs[j]? = some u → w3.cell? ⟨w.heap.size, j, none⟩ = some u) ∧ (∀ j, w3.frozen? ⟨w.heap.size, j, none⟩ = false) ∧ Below w.heap.size w w3 := by
  refine ⟨fun j u hj => ?_, fun j => ?_, ((Below.refl _ _).alloc (Nat.le_refl _) _).trans (h.mono (by simp))⟩
  · rw [h.cell (p := ⟨w.heap.size, j, none⟩) (by simp), World.cell?_alloc_new]; exact hj
  · rw [h.frozen (p := ⟨w.heap.size, j, none⟩) (by simp)]; exact World.frozen?_alloc_new _ _ _ _
section
variable {w w' w1 : World} {rb sl : Nat} {vj v vj' v' : Value} {Js Js' : List JM} {hp hp' : List Nat} {J : JM}
theorem roomJob_own (h : RoomAt w rb sl vj v Js hp) (hJl : Js.length ≤ 5) {i : Nat} (hi : Js[i]? = some J) : Calls Tryz.prog 35 #[.pointer (some ⟨rb, 0, none⟩), .int .i64 ((i : Int) + 1)] w fun e w' => ∃ oa oc, e = .returned (.tuple #[.agg #[.int .i64 ((J.m.over.getD 0 : Nat) : Int), .slice oa J.m.out.length oc, .int .i64 (J.m.used : Nat)], .int .i64 (if J.done then 1 else 0), .int .i64 0]) ∧ J.m.out.length ≤ oc ∧ Hid (w'.ownsRow w.heap.size 3 1 (.slice oa J.m.out.length oc) J.m.out.length (J.m.out.map (.int .i64))) ∧ Below w.heap.size w w' := by
  have hJm : J ∈ Js := List.mem_of_getElem? hi
  have HA : Hid (∀ A, RoomAt (w.alloc A) rb sl vj v Js hp) := fun A => h.below ((Below.refl _ _).alloc (Nat.le_refl _) _)
  have HF : Hid (∀ A, Calls Tryz.prog 61 #[.pointer (some ⟨rb, 0, none⟩), .int .i64 ((i : Int) + 1)] (w.alloc A) fun e w' => e = .returned (.pointer (some ⟨J.jb, 0, none⟩)) ∧ w' = w.alloc A) := fun A => find_any (HA.out A) hJl hi
  have HO : Hid (∀ A, Calls Tryz.prog 63 #[.pointer (some ⟨J.jb, 0, none⟩)] (w.alloc A) fun e w' => ∃ oa oc, e = .returned (.agg #[.int .i64 ((J.m.over.getD 0 : Nat) : Int), .slice oa J.m.out.length oc, .int .i64 (J.m.used : Nat)]) ∧ J.m.out.length ≤ oc ∧ Hid (w'.ownsRow (w.alloc A).heap.size 3 1 (.slice oa J.m.out.length oc) J.m.out.length (J.m.out.map (.int .i64))) ∧ Below (w.alloc A).heap.size (w.alloc A) w') := fun A => outcome_any ((HA.out A).job J hJm)
  have HC4 : Hid (∀ A, (w.alloc A).cell? ⟨J.jb, 4, none⟩ = some (.pointer (if J.done then none else some ⟨J.xb, 0, none⟩))) := fun A => ((HA.out A).job J hJm).cel 4 _ rfl
  have HUP : Hid (∀ (w4 : World) (oa : Option Addr) (oc : Nat) (A : Obj), w4.ownsRow (w.alloc A).heap.size 3 1 (.slice oa J.m.out.length oc) J.m.out.length (J.m.out.map (.int .i64)) → w4.ownsRow w.heap.size 3 1 (.slice oa J.m.out.length oc) J.m.out.length (J.m.out.map (.int .i64))) := fun w4 oa oc A hh => row_base hh (by simp)
  clear h hi
  generalize J.m.out.length = n at *
  cases hd : J.done with
  | true =>
    rw [hd] at HC4
    go_enter Tryz.func35, Tryz.ntmps35
    go_wp2_with (first
      | (go_at_call 61; refine (HF.out _).mono ?_; rintro e w2 ⟨rfl, h9⟩; cases h9)
      | (go_at_call 62; refine (jover_any (v := none) (HC4.out _)).mono ?_; rintro e w2 ⟨rfl, h9⟩; cases h9)
      | (go_at_call 63; refine (HO.out _).mono ?_; rintro e w3 ⟨oa, oc, rfl, hoc, HU, hb3⟩; obtain ⟨t1, t2, hb4⟩ := one_cells hb3; have r0 := t1 0 _ rfl; have r1 := t1 1 _ rfl; have r2 := t1 2 _ rfl; have f0 := t2 0; have f1 := t2 1; have f2 := t2 2; clear t1 t2))
    refine bodyPost_ret (v := .tuple #[.agg #[.int .i64 ((J.m.over.getD 0 : Nat) : Int), .slice oa n oc, .int .i64 (J.m.used : Nat)], .int .i64 1, .int .i64 0]) (by simp [results, Tryz.results35, go_sem, r0, r1, r2]) rfl ?_
    go_light
    refine ⟨oa, oc, rfl, hoc, HUP.out _ oa oc _ (ownsRow_setCell_below (ownsRow_setCell_below (ownsRow_setCell_below HU.out (by simp) _) (by simp) _) (by simp) _), below_setR (below_setR (below_setR hb4 (Nat.le_refl _)) (Nat.le_refl _)) (Nat.le_refl _)⟩
  | false =>
    rw [hd] at HC4
    go_enter Tryz.func35, Tryz.ntmps35
    go_wp2_with (first
      | (go_at_call 61; refine (HF.out _).mono ?_; rintro e w2 ⟨rfl, h9⟩; cases h9)
      | (go_at_call 62; refine (jover_any (v := some ⟨J.xb, 0, none⟩) (HC4.out _)).mono ?_; rintro e w2 ⟨rfl, h9⟩; cases h9)
      | (go_at_call 63; refine (HO.out _).mono ?_; rintro e w3 ⟨oa, oc, rfl, hoc, HU, hb3⟩; obtain ⟨t1, t2, hb4⟩ := one_cells hb3; have r0 := t1 0 _ rfl; have r1 := t1 1 _ rfl; have r2 := t1 2 _ rfl; have f0 := t2 0; have f1 := t2 1; have f2 := t2 2; clear t1 t2))
    refine bodyPost_ret (v := .tuple #[.agg #[.int .i64 ((J.m.over.getD 0 : Nat) : Int), .slice oa n oc, .int .i64 (J.m.used : Nat)], .int .i64 0, .int .i64 0]) (by simp [results, Tryz.results35, go_sem, r0, r1, r2]) rfl ?_
    go_light
    refine ⟨oa, oc, rfl, hoc, HUP.out _ oa oc _ (ownsRow_setCell_below (ownsRow_setCell_below (ownsRow_setCell_below HU.out (by simp) _) (by simp) _) (by simp) _), below_setR (below_setR (below_setR hb4 (Nat.le_refl _)) (Nat.le_refl _)) (Nat.le_refl _)⟩
theorem roomJob_any (h : RoomAt w rb sl vj v Js hp) (hJl : Js.length ≤ 5) {i : Nat} (hi : Js[i]? = some J) : Calls Tryz.prog 35 #[.pointer (some ⟨rb, 0, none⟩), .int .i64 ((i : Int) + 1)] w fun e w' => ∃ oa oc, e = .returned (.tuple #[.agg #[.int .i64 ((J.m.over.getD 0 : Nat) : Int), .slice oa J.m.out.length oc, .int .i64 (J.m.used : Nat)], .int .i64 (if J.done then 1 else 0), .int .i64 0]) ∧ J.m.out.length ≤ oc ∧ Hid (OutAt w' (.agg #[.int .i64 ((J.m.over.getD 0 : Nat) : Int), .slice oa J.m.out.length oc, .int .i64 (J.m.used : Nat)]) J.told) ∧ Below w.heap.size w w' := by
  have hl60 := (h.job J (List.mem_of_getElem? hi)).mc.rows.o60
  refine (roomJob_own h hJl hi).mono ?_
  rintro e w' ⟨oa, oc, rfl, hoc, hu, hb⟩
  exact ⟨oa, oc, rfl, hoc, ⟨_, rfl, IntsC.own hu.out (by omega)⟩, hb⟩
end
end Go.Proofs.YtklobognaldjpaaGreat
