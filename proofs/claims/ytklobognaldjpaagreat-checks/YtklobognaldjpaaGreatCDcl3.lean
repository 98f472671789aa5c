/- The reference's walk: a name is declared that was not. -/
import Derived.Test.YtklobognaldjpaaGreatCDcl2
import Derived.Test.YtklobognaldjpaaGreatCDcl1b
import Derived.Deep.RegionLaw
namespace Go.Proofs.YtklobognaldjpaaGreat
open Go.RowKit

section
variable {wb tb cap : Nat} {T : List Tok} {m : Option Nm} {n : Nm} {w w0 : World} {s s0 : PS}

set_option maxRecDepth 100000 in
set_option maxHeartbeats 3200000 in
theorem declare_here (h : RD wb tb cap T w0 (some n) w s) (hc : s.code = 0) (hg0 : Good T s0) (nm : ByteArray) (kind : Nat) (hkd : kind = 0) (va : Option Addr) (vn vc args : Nat)
    (hf : findLast n.E.here (cur T s0).text = none) (hlen : n.E.here.length ≤ 600) :
    Calls Tryz.prog 125 #[.pointer (some ⟨wb, 0, none⟩), .int .i64 s0.next, .bool true, cellV nm kind va vn vc args] w fun e w' => e = .returned (.tuple #[]) ∧ ∃ n', n'.E = n.E.add true ⟨(cur T s0).text, kind, args⟩ ∧ RD wb tb cap T w0 (some n') w' s := by
  have hE := h.rw.env n rfl
  have hmo := h.rw.mode_
  have hlt := h.rw.lt
  have htl := h.rw.tlt
  have hfa := h.rw.fault
  have ht := h.rw.toks
  have hsz := h.rw.size
  have hgc := hE.gcell
  have hhc := hE.hcell
  have hz5 := h.rw.frz 5
  have hg0' : (s0.next : Int) < T.length := by unfold Good at hg0; omega
  rw [hc] at hfa
  simp only [mdI] at hmo
  have c3 := tokAt h.rw hg0
  have htx : (T.getD s0.next default).text = (cur T s0).text := rfl
  rw [htx] at c3
  clear htx
  have hF := fun W (hb : Below w.heap.size w W) => find_any ((h.rw.below hb).env n rfl).h hE.hlen (cur T s0).text
  rw [hf] at hF
  simp only [insI] at hF
  obtain ⟨ys, hown⟩ := (h.own n rfl).h
  have hbs := h.base
  obtain ⟨i0, hi0, hz0, hz1, hz2⟩ := info_parts Tryz.infoCell
  have hne : n.hv.ownBlock ≠ some wb := hE.hne
  have hne2 : n.hv.ownBlock ≠ some w.heap.size := fun e => by have := (hown.lt _ e).2; omega
  have hnb : ∀ A B, ((w.alloc A).alloc B).drew.heap[w.heap.size + 1]? = some B := fun A B => by
    have h9 := heap_alloc_new (w.alloc A) B
    rw [show (w.alloc A).heap.size = w.heap.size + 1 from by simp] at h9
    exact h9
  have hcB : ∀ A B, ((w.alloc A).alloc B).drew.cell? ⟨wb, 5, none⟩ = some n.hv := fun A B => by
    show ((w.alloc A).alloc B).cell? ⟨wb, 5, none⟩ = some n.hv
    rw [((below_new w A).trans ((below_new (w.alloc A) B).mono (by simp))).cell (p := ⟨wb, 5, none⟩) hlt]; exact hhc
  have hzB : ∀ A B, ((w.alloc A).alloc B).drew.frozen? ⟨wb, 5, none⟩ = false := fun A B => by
    show ((w.alloc A).alloc B).frozen? ⟨wb, 5, none⟩ = false
    rw [((below_new w A).trans ((below_new (w.alloc A) B).mono (by simp))).frozen (p := ⟨wb, 5, none⟩) hlt]; exact hz5
  have HcB : Hid (∀ A B, ((w.alloc A).alloc B).drew.cell? ⟨wb, 5, none⟩ = some n.hv) := hcB
  have HzB : Hid (∀ A B, ((w.alloc A).alloc B).drew.frozen? ⟨wb, 5, none⟩ = false) := hzB
  clear hcB hzB
  have HA : Hid (∀ (W W4 : World) (g cp : Nat), Below w.heap.size w W → W.ownsRow w0.heap.size 207 6 n.hv n.E.here.length ys →
      W4.ownsRow w0.heap.size 207 6 (.slice (some ⟨g, 0, none⟩) (n.E.here.length + 1) cp) (n.E.here.length + 1) (ys ++ [.string (cur T s0).text, .int .i64 kind, .slice va vn vc, .int .i64 args, .slice none 0 0, .int .i64 0]) →
      W.grownBy W4 n.hv.ownBlock → (n.hv.ownBlock = some g ∨ g = W.heap.size) →
      ∃ n', n'.E = n.E.add true ⟨(cur T s0).text, kind, args⟩ ∧ RD wb tb cap T w0 (some n') (W4.setCell ⟨wb, 5, none⟩ (.slice (some ⟨g, 0, none⟩) (n.E.here.length + 1) cp)) s) := by
    show ∀ W W4 g cp, _
    intro W W4 g cp hb ho ho1 hg hat
    exact ⟨_, rfl, (h.below hb).addHere ⟨(cur T s0).text, kind, args⟩ _ _ _ hkd hlen ho ho1 hg hat⟩
  generalize (cur T s0).text = t at *
  generalize n.E.here.length = len at *
  generalize n.hv = hv at *
  clear hf hE hkd
  unfold cellV
  go_enter Tryz.func125, Tryz.ntmps125
  go_wp2_with (first
    | (go_at_call 152; refine (hF _ (below_new _ _)).mono ?_; rintro e w1 ⟨rfl, h1⟩; obtain rfl := h1.symm; clear h1))
  go_region_law
    ((refine step_append_lies _ (by rfl) _ _ _ (by rfl) w0.heap.size 207 i0 _ 6 88 Tryz.underlying124 hi0 hz0 hz1 hz2 rfl (by omega) hv len ys (by rfl) (((hown.alloc _).alloc _).drew)
        ⟨w.heap.size + 1, 0, none⟩ 1 1 [.string t, .int .i64 kind, .slice va vn vc, .int .i64 args, .slice none 0 0, .int .i64 0] (by rfl) (by rfl) (World.news_of_block (cs := #[.string t, .int .i64 kind, .slice va vn vc, .int .i64 args, .slice none 0 0, .int .i64 0]) (t := 207) (fr := (0, 0)) (hnb _ _)) (by simp [Value.oneCell'])
        (by omega) (by unfold maxLen; omega) (by omega) (by simp; omega) (w.heap.size + 2) (by simp) ?_; intro gg cp w1 hown1 hgrow hat hlt1; have hw5 : w1.cell? ⟨wb, 5, none⟩ = some hv := (by rw [hgrow.cell_far _ (by simp; omega) (Ne.symm hne)]; exact HcB.out _ _); have hf5 : w1.frozen? ⟨wb, 5, none⟩ = false := (by rw [hgrow.frozen_far _ (by simp; omega) (Ne.symm hne)]; exact HzB.out _ _)))
  all_goals go_wp2
  all_goals go_end0
  all_goals exact ⟨rfl, HA.out _ _ gg cp ((((Below.refl _ _).alloc (Nat.le_refl _) _).alloc (by simp) _).drew) (((hown.alloc _).alloc _).drew) hown1 hgrow (by simpa using hat)⟩

set_option maxRecDepth 100000 in
set_option maxHeartbeats 3200000 in
theorem declare_glob (h : RD wb tb cap T w0 (some n) w s) (hc : s.code = 0) (hg0 : Good T s0) (nm : ByteArray) (kind : Nat) (va : Option Addr) (vn vc args : Nat)
    (hf : findLast n.E.glob (cur T s0).text = none) (hlen : n.E.glob.length ≤ 600) :
    Calls Tryz.prog 125 #[.pointer (some ⟨wb, 0, none⟩), .int .i64 s0.next, .bool false, cellV nm kind va vn vc args] w fun e w' => e = .returned (.tuple #[]) ∧ ∃ n', n'.E = n.E.add false ⟨(cur T s0).text, kind, args⟩ ∧ RD wb tb cap T w0 (some n') w' s := by
  have hE := h.rw.env n rfl
  have hmo := h.rw.mode_
  have hlt := h.rw.lt
  have htl := h.rw.tlt
  have hfa := h.rw.fault
  have ht := h.rw.toks
  have hsz := h.rw.size
  have hgc := hE.gcell
  have hhc := hE.hcell
  have hz5 := h.rw.frz 4
  have hg0' : (s0.next : Int) < T.length := by unfold Good at hg0; omega
  rw [hc] at hfa
  simp only [mdI] at hmo
  have c3 := tokAt h.rw hg0
  have htx : (T.getD s0.next default).text = (cur T s0).text := rfl
  rw [htx] at c3
  clear htx
  have hF := fun W (hb : Below w.heap.size w W) => find_any ((h.rw.below hb).env n rfl).g hE.glen (cur T s0).text
  rw [hf] at hF
  simp only [insI] at hF
  obtain ⟨ys, hown⟩ := (h.own n rfl).g
  have hbs := h.base
  obtain ⟨i0, hi0, hz0, hz1, hz2⟩ := info_parts Tryz.infoCell
  have hne : n.gv.ownBlock ≠ some wb := hE.gne
  have hne2 : n.gv.ownBlock ≠ some w.heap.size := fun e => by have := (hown.lt _ e).2; omega
  have hnb : ∀ A B, ((w.alloc A).alloc B).drew.heap[w.heap.size + 1]? = some B := fun A B => by
    have h9 := heap_alloc_new (w.alloc A) B
    rw [show (w.alloc A).heap.size = w.heap.size + 1 from by simp] at h9
    exact h9
  have hcB : ∀ A B, ((w.alloc A).alloc B).drew.cell? ⟨wb, 4, none⟩ = some n.gv := fun A B => by
    show ((w.alloc A).alloc B).cell? ⟨wb, 4, none⟩ = some n.gv
    rw [((below_new w A).trans ((below_new (w.alloc A) B).mono (by simp))).cell (p := ⟨wb, 4, none⟩) hlt]; exact hgc
  have hzB : ∀ A B, ((w.alloc A).alloc B).drew.frozen? ⟨wb, 4, none⟩ = false := fun A B => by
    show ((w.alloc A).alloc B).frozen? ⟨wb, 4, none⟩ = false
    rw [((below_new w A).trans ((below_new (w.alloc A) B).mono (by simp))).frozen (p := ⟨wb, 4, none⟩) hlt]; exact hz5
  have HcB : Hid (∀ A B, ((w.alloc A).alloc B).drew.cell? ⟨wb, 4, none⟩ = some n.gv) := hcB
  have HzB : Hid (∀ A B, ((w.alloc A).alloc B).drew.frozen? ⟨wb, 4, none⟩ = false) := hzB
  clear hcB hzB
  have HA : Hid (∀ (W W4 : World) (g cp : Nat), Below w.heap.size w W → W.ownsRow w0.heap.size 207 6 n.gv n.E.glob.length ys →
      W4.ownsRow w0.heap.size 207 6 (.slice (some ⟨g, 0, none⟩) (n.E.glob.length + 1) cp) (n.E.glob.length + 1) (ys ++ [.string (cur T s0).text, .int .i64 kind, .slice va vn vc, .int .i64 args, .slice none 0 0, .int .i64 0]) →
      W.grownBy W4 n.gv.ownBlock → (n.gv.ownBlock = some g ∨ g = W.heap.size) →
      ∃ n', n'.E = n.E.add false ⟨(cur T s0).text, kind, args⟩ ∧ RD wb tb cap T w0 (some n') (W4.setCell ⟨wb, 4, none⟩ (.slice (some ⟨g, 0, none⟩) (n.E.glob.length + 1) cp)) s) := by
    show ∀ W W4 g cp, _
    intro W W4 g cp hb ho ho1 hg hat
    exact ⟨_, rfl, (h.below hb).addGlob ⟨(cur T s0).text, kind, args⟩ _ _ _ rfl hlen ho ho1 hg hat⟩
  generalize (cur T s0).text = t at *
  generalize n.E.glob.length = len at *
  generalize n.gv = hv at *
  clear hf hE
  unfold cellV
  go_enter Tryz.func125, Tryz.ntmps125
  go_wp2_with (first
    | (go_at_call 152; refine (hF _ (below_new _ _)).mono ?_; rintro e w1 ⟨rfl, h1⟩; obtain rfl := h1.symm; clear h1))
  go_region_law
    ((refine step_append_lies _ (by rfl) _ _ _ (by rfl) w0.heap.size 207 i0 _ 6 88 Tryz.underlying124 hi0 hz0 hz1 hz2 rfl (by omega) hv len ys (by rfl) (((hown.alloc _).alloc _).drew)
        ⟨w.heap.size + 1, 0, none⟩ 1 1 [.string t, .int .i64 kind, .slice va vn vc, .int .i64 args, .slice none 0 0, .int .i64 0] (by rfl) (by rfl) (World.news_of_block (cs := #[.string t, .int .i64 kind, .slice va vn vc, .int .i64 args, .slice none 0 0, .int .i64 0]) (t := 207) (fr := (0, 0)) (hnb _ _)) (by simp [Value.oneCell'])
        (by omega) (by unfold maxLen; omega) (by omega) (by simp; omega) (w.heap.size + 2) (by simp) ?_; intro gg cp w1 hown1 hgrow hat hlt1; have hw5 : w1.cell? ⟨wb, 4, none⟩ = some hv := (by rw [hgrow.cell_far _ (by simp; omega) (Ne.symm hne)]; exact HcB.out _ _); have hf5 : w1.frozen? ⟨wb, 4, none⟩ = false := (by rw [hgrow.frozen_far _ (by simp; omega) (Ne.symm hne)]; exact HzB.out _ _)))
  all_goals go_wp2
  all_goals go_end0
  all_goals exact ⟨rfl, HA.out _ _ gg cp ((((Below.refl _ _).alloc (Nat.le_refl _) _).alloc (by simp) _).drew) (((hown.alloc _).alloc _).drew) hown1 hgrow (by simpa using hat)⟩


/-- A name is declared, or not. -/
theorem declare_any (h : RD wb tb cap T w0 m w s) (hg0 : Good T s0) (here : Bool) (nm : ByteArray) (kind : Nat) (hkd : here = true → kind = 0) (va : Option Addr) (vn vc args : Nat)
    (hlen : ∀ n, m = some n → s.code = 0 → (n.E.row here).length ≤ 600) :
    Calls Tryz.prog 125 #[.pointer (some ⟨wb, 0, none⟩), .int .i64 s0.next, .bool here, cellV nm kind va vn vc args] w fun e w' => e = .returned (.tuple #[]) ∧ ∃ m', mdE m' = (declE T (mdE m) here s0 kind args s).1 ∧ RD wb tb cap T w0 m' w' (declE T (mdE m) here s0 kind args s).2 := by
  cases m with
  | none =>
    refine (declare_none h.rw s0.next here nm kind va vn vc args).mono ?_
    rintro e w' ⟨rfl, hb⟩
    exact ⟨rfl, none, rfl, h.below hb⟩
  | some n =>
    by_cases hc : s.code = 0
    · cases hf : findLast (n.E.row here) (cur T s0).text with
      | some k =>
        refine (declare_found h.rw hc hg0 here nm kind va vn vc args (by rw [hf]; rfl)).mono ?_
        rintro e w' ⟨rfl, hP, hk⟩
        refine ⟨rfl, some n, ?_, ?_⟩
        · show some n.E = (if s.code = 0 then (if (findLast (n.E.row here) (cur T s0).text).isSome then (some n.E, stop T 6 (cur T s0).pos) else _) else _).1
          rw [if_pos hc, hf]; rfl
        · show RD wb tb cap T w0 (some n) w' (if s.code = 0 then (if (findLast (n.E.row here) (cur T s0).text).isSome then (some n.E, stop T 6 (cur T s0).pos) else _) else _).2
          rw [if_pos hc, hf]; exact h.step hP hk
      | none =>
        have e1 : declE T (mdE (some n)) here s0 kind args s = (some (n.E.add here ⟨(cur T s0).text, kind, args⟩), s) := by
          show (if s.code = 0 then (if (findLast (n.E.row here) (cur T s0).text).isSome then _ else _) else _) = _
          rw [if_pos hc, hf]; rfl
        rw [e1]
        have hl := hlen n rfl hc
        cases here with
        | true =>
          refine (declare_here h hc hg0 nm kind (hkd rfl) va vn vc args hf hl).mono ?_
          rintro e w' ⟨rfl, n', hn', hD⟩
          exact ⟨rfl, some n', by show some n'.E = _; rw [hn'], hD⟩
        | false =>
          refine (declare_glob h hc hg0 nm kind va vn vc args hf hl).mono ?_
          rintro e w' ⟨rfl, n', hn', hD⟩
          exact ⟨rfl, some n', by show some n'.E = _; rw [hn'], hD⟩
    · refine (declare_dead h.rw hc s0.next here nm kind va vn vc args).mono ?_
      rintro e w' ⟨rfl, hb⟩
      have e1 : declE T (mdE (some n)) here s0 kind args s = (some n.E, s) := by
        show (if s.code = 0 then _ else _) = _
        rw [if_neg hc]
      rw [e1]
      exact ⟨rfl, some n, rfl, h.below hb⟩

end

end Go.Proofs.YtklobognaldjpaaGreat
