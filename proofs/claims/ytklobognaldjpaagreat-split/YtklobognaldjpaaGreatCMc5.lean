/- The machine: the stack. The machine: units, jumps, places of arrays, operations. The machine: calls, what is written, what is read. -/
import Derived.Test.YtklobognaldjpaaGreatCAz1
import Derived.Deep.RegionHeld3
import Derived.Deep.RegionLaw
import Derived.BigRegion
set_option maxRecDepth 1000000
set_option maxHeartbeats 2000000
namespace Go.Proofs.YtklobognaldjpaaGreat
open Go.RowKit
theorem Tryz.infoFrame : (Tryz.prog.info? 228).map (fun i => (i.zero, i.size, i.bytes)) = some (some (.agg #[.int .i64 0, .int .i64 0]), 2, 16) := by kernel_rfl
section
variable {xb wb wc fuel limit : Nat} {W : List Nat} {Q : Nat -> Prop} {w w' w1 : World} {m : MS} {waits : Bool} {R : MR} {vi : Value}
theorem MC.cellsG (h : MC xb wb wc W Q w m fuel limit waits R vi) {row : Option Nat} (hg : w.grownBy w1 row) (hr : row ≠ some xb) : CellsAt xb w1 (mcCells wb wc W m fuel limit waits R vi) /\ (∀ o, w1.frozen? ⟨xb, o, none⟩ = false) := by
 have hb : w1.heap[xb]? = w.heap[xb]? := hg.block xb h.rows.xlt (fun e => hr e.symm)
 exact ⟨h.cel.block hb, fun o => by rw [World.frozen?_of_block (w := w) hb]; exact h.frz o⟩
theorem MC.stackTo (h : MC xb wb wc W Q w m fuel limit waits R vi) {v' : Value} {s' : List Int} (hg : w.grownBy w1 R.st.ownBlock) (ho : w1.ownsRow 0 21 1 v' s'.length (s'.map (.int .i32))) (hn : NewRow w R.st v') (hr : Rng s') :
  MC xb wb wc W Q (w1.setCell ⟨xb, 3, none⟩ v') { m with stack := s' } fuel limit waits { R with st := v' } vi /\ MM xb R { R with st := v' } w (w1.setCell ⟨xb, 3, none⟩ v') := by
 obtain ⟨hc, hf⟩ := h.cellsG hg (fun e => h.rows.xr (.inr (.inl e)))
 refine ⟨⟨hc.set (o := 3) (by simp [mcCells]) v', fun o => by rw [World.frozen?_setCell]; exact hf o, (h.rows.stack hg ho hn hr).setX 3 v'⟩, ?_⟩
 refine (MM.grown (R' := { R with st := v' }) hg (fun b e => .inr (.inl e)) (fun k hk => ?_)).trans (MM.setX _ _ _ _ _)
 rcases hk with e | e | e | e
 ·exact .inl (.inl e)
 ·rcases hn with hn | hn
  ·exact .inl (.inr (.inl (hn ▸ e)))
  ·exact .inr (hn k e)
 ·exact .inl (.inr (.inr (.inl e)))
 ·exact .inl (.inr (.inr (.inr e)))
theorem MC.callsTo (h : MC xb wb wc W Q w m fuel limit waits R vi) {v' : Value} {s' : List (Nat × Nat)} (hg : w.grownBy w1 R.ca.ownBlock) (ho : w1.ownsRow 0 228 2 v' s'.length (flatF s')) (hn : NewRow w R.ca v') (hr : s'.length <= 30) :
  MC xb wb wc W Q (w1.setCell ⟨xb, 5, none⟩ v') { m with calls := s' } fuel limit waits { R with ca := v' } vi /\ MM xb R { R with ca := v' } w (w1.setCell ⟨xb, 5, none⟩ v') := by
 obtain ⟨hc, hf⟩ := h.cellsG hg (fun e => h.rows.xr (.inr (.inr (.inl e))))
 refine ⟨⟨hc.set (o := 5) (by simp [mcCells]) v', fun o => by rw [World.frozen?_setCell]; exact hf o, (h.rows.calls hg ho hn hr).setX 5 v'⟩, ?_⟩
 refine (MM.grown (R' := { R with ca := v' }) hg (fun b e => .inr (.inr (.inl e))) (fun k hk => ?_)).trans (MM.setX _ _ _ _ _)
 rcases hk with e | e | e | e
 ·exact .inl (.inl e)
 ·exact .inl (.inr (.inl e))
 ·rcases hn with hn | hn
  ·exact .inl (.inr (.inr (.inl (hn ▸ e))))
  ·exact .inr (hn k e)
 ·exact .inl (.inr (.inr (.inr e)))
theorem MC.outTo (h : MC xb wb wc W Q w m fuel limit waits R vi) {v' : Value} {s' : List Int} (hg : w.grownBy w1 R.ou.ownBlock) (ho : w1.ownsRow 0 3 1 v' s'.length (s'.map (.int .i64))) (hn : NewRow w R.ou v') (hr : s'.length <= 60) :
  MC xb wb wc W Q (w1.setCell ⟨xb, 10, none⟩ v') { m with out := s' } fuel limit waits { R with ou := v' } vi /\ MM xb R { R with ou := v' } w (w1.setCell ⟨xb, 10, none⟩ v') := by
 obtain ⟨hc, hf⟩ := h.cellsG hg (fun e => h.rows.xr (.inr (.inr (.inr e))))
 refine ⟨⟨hc.set (o := 10) (by simp [mcCells]) v', fun o => by rw [World.frozen?_setCell]; exact hf o, (h.rows.outs hg ho hn hr).setX 10 v'⟩, ?_⟩
 refine (MM.grown (R' := { R with ou := v' }) hg (fun b e => .inr (.inr (.inr e))) (fun k hk => ?_)).trans (MM.setX _ _ _ _ _)
 rcases hk with e | e | e | e
 ·exact .inl (.inl e)
 ·exact .inl (.inr (.inl e))
 ·exact .inl (.inr (.inr (.inl e)))
 ·rcases hn with hn | hn
  ·exact .inl (.inr (.inr (.inr (hn ▸ e))))
  ·exact .inr (hn k e)
theorem MC.placeTo (h : MC xb wb wc W Q w m fuel limit waits R vi) {g cap : Nat} (hv : R.pl = .slice (some ⟨g, 0, none⟩) m.places.length cap) (j : Nat) {x : Int} (hx : -2147483648 <= x /\ x <= 2147483647) :
  MC xb wb wc W Q (w.setCell ⟨g, j, none⟩ (.int .i32 x)) { m with places := m.places.set j x } fuel limit waits R vi /\ MM xb R R w (w.setCell ⟨g, j, none⟩ (.int .i32 x)) := by
 have ho := h.rows.pl
 rw [hv] at ho
 obtain ⟨s1, s2⟩ := ho.stored j (.int .i32 x)
 have hob : R.pl.ownBlock = some g := by rw [hv]; rfl
 have hg : w.grownBy (w.setCell ⟨g, j, none⟩ (.int .i32 x)) R.pl.ownBlock := by rw [hob]; exact s2
 obtain ⟨hc, hf⟩ := h.cellsG hg (fun e => h.rows.xr (.inl e))
 have hR : ({ R with pl := R.pl } : MR) = R := rfl
 refine ⟨⟨hc, hf, ?_⟩, MM.grown hg (fun b e => .inl e) (fun k hk => .inl hk)⟩
 have := h.rows.places (v' := R.pl) (s' := m.places.set j x) hg (by rw [List.length_set, List.map_set]; rw [hv]; exact s1) (.inl rfl) (by
  intro v hv2
  rcases List.mem_or_eq_of_mem_set hv2 with h1 | h1
  ·exact h.rows.rp v h1
  ·rw [h1]; exact hx)
 exact this
theorem MC.slotTo (h : MC xb wb wc W Q w m fuel limit waits R vi) {g cap : Nat} (hv : R.st = .slice (some ⟨g, 0, none⟩) m.stack.length cap) (j : Nat) {x : Int} (hx : -2147483648 <= x /\ x <= 2147483647) :
  MC xb wb wc W Q (w.setCell ⟨g, j, none⟩ (.int .i32 x)) { m with stack := m.stack.set j x } fuel limit waits R vi /\ MM xb R R w (w.setCell ⟨g, j, none⟩ (.int .i32 x)) := by
 have ho := h.rows.st
 rw [hv] at ho
 obtain ⟨s1, s2⟩ := ho.stored j (.int .i32 x)
 have hob : R.st.ownBlock = some g := by rw [hv]; rfl
 have hg : w.grownBy (w.setCell ⟨g, j, none⟩ (.int .i32 x)) R.st.ownBlock := by rw [hob]; exact s2
 obtain ⟨hc, hf⟩ := h.cellsG hg (fun e => h.rows.xr (.inr (.inl e)))
 refine ⟨⟨hc, hf, ?_⟩, MM.grown hg (fun b e => .inr (.inl e)) (fun k hk => .inl hk)⟩
 have := h.rows.stack (v' := R.st) (s' := m.stack.set j x) hg (by rw [List.length_set, List.map_set]; rw [hv]; exact s1) (.inl rfl) (by
  intro v hv2
  rcases List.mem_or_eq_of_mem_set hv2 with h1 | h1
  ·exact h.rows.rs v h1
  ·rw [h1]; exact hx)
 exact this
theorem rng_snoc {l : List Int} (h : Rng l) {x : Int} (hx : -2147483648 <= x /\ x <= 2147483647) : Rng (l ++ [x]) := by
 intro v hv
 rcases List.mem_append.1 hv with h1 | h1
 ·exact h v h1
 ·simp at h1; rw [h1]; exact hx
theorem rng_take {l : List Int} (h : Rng l) (k : Nat) : Rng (l.take k) := fun v hv => h v (List.mem_of_mem_take hv)
theorem wrapV_rng (x : Int) : -2147483648 <= wrapV x /\ wrapV x <= 2147483647 := by
 unfold wrapV
 have h1 := Int.bmod_lt (x := x) (m := 4294967296) (by omega)
 have h2 := Int.le_bmod (x := x) (m := 4294967296) (by omega)
 omega
theorem truthV_rng (b : Bool) : -2147483648 <= truthV b /\ truthV b <= 2147483647 := by cases b <;> decide
theorem MC.stackCut (h : MC xb wb wc W Q w m fuel limit waits R vi) {g cap : Nat} (hv : R.st = .slice (some ⟨g, 0, none⟩) m.stack.length cap) {k : Nat} (hk : k <= m.stack.length) :
  MC xb wb wc W Q (w.setCell ⟨xb, 3, none⟩ (.slice (some ⟨g, 0, none⟩) k cap)) { m with stack := m.stack.take k } fuel limit waits { R with st := .slice (some ⟨g, 0, none⟩) k cap } vi /\ MM xb R { R with st := .slice (some ⟨g, 0, none⟩) k cap } w (w.setCell ⟨xb, 3, none⟩ (.slice (some ⟨g, 0, none⟩) k cap)) := by
 have ho := h.rows.st
 rw [hv] at ho
 have h2 := owns_take ho hk
 have hl : (m.stack.take k).length = k := by rw [List.length_take]; omega
 refine h.stackTo (w1 := w) ⟨rfl, rfl, rfl, Nat.le_refl _, fun _ _ _ => rfl⟩ ?_ (.inl (by rw [hv]; rfl)) (rng_take h.rows.rs k)
 rw [hl, List.map_take]
 rw [Nat.mul_one] at h2
 exact h2
theorem flatF_take : ∀ (l : List (Nat × Nat)) (k : Nat), flatF (l.take k) = (flatF l).take (k * 2)
 | [], k => by simp [flatF]
 | a :: l, 0 => by simp [flatF]
 | a :: l, k + 1 => by
  have := flatF_take l k
  show flatF (a :: l.take k) = _
  have e : ∀ t, flatF (a :: t) = [.int .i64 (a.1 : Nat), .int .i64 (a.2 : Nat)] ++ flatF t := fun t => rfl
  rw [e, e, this, show (k + 1) * 2 = k * 2 + 1 + 1 by omega]
  rfl
theorem flatF_snoc (l : List (Nat × Nat)) (a : Nat × Nat) : flatF (l ++ [a]) = flatF l ++ [.int .i64 (a.1 : Nat), .int .i64 (a.2 : Nat)] := by
 unfold flatF; rw [List.flatMap_append]; rfl
theorem MC.callsCut (h : MC xb wb wc W Q w m fuel limit waits R vi) {g cap : Nat} (hv : R.ca = .slice (some ⟨g, 0, none⟩) m.calls.length cap) {k : Nat} (hk : k <= m.calls.length) :
  MC xb wb wc W Q (w.setCell ⟨xb, 5, none⟩ (.slice (some ⟨g, 0, none⟩) k cap)) { m with calls := m.calls.take k } fuel limit waits { R with ca := .slice (some ⟨g, 0, none⟩) k cap } vi /\ MM xb R { R with ca := .slice (some ⟨g, 0, none⟩) k cap } w (w.setCell ⟨xb, 5, none⟩ (.slice (some ⟨g, 0, none⟩) k cap)) := by
 have ho := h.rows.ca
 rw [hv] at ho
 have h2 := owns_take ho hk
 have hl : (m.calls.take k).length = k := by rw [List.length_take]; omega
 refine h.callsTo (w1 := w) ⟨rfl, rfl, rfl, Nat.le_refl _, fun _ _ _ => rfl⟩ ?_ (.inl (by rw [hv]; rfl)) (by have := h.rows.c30; omega)
 rw [hl, flatF_take]
 exact h2
theorem push_any (h : MC xb wb wc W Q w m fuel limit waits R vi) {x : Int} (hx : -2147483648 <= x /\ x <= 2147483647) (hbig : m.stack.length <= 1000000) :
  Calls Tryz.prog 105 #[.pointer (some ⟨xb, 0, none⟩), .int .i32 x] w (MPo xb wb wc W Q fuel limit waits R w (.tuple #[]) (m.push x) vi) := by
 obtain ⟨i0, hi, hz0, hz1, hz2⟩ := info_parts Tryz.infoI32
 have hst := h.stAt
 have k1 : ∀ A, Below w.heap.size w (w.alloc A) := fun A => (Below.refl _ _).alloc (Nat.le_refl _) _
 have hA := h.below (k1 (.cells #[.int .i32 x] 21))
 have hown := hA.rows.st
 have hks : ∀ j u, [Value.int .i32 x][j]? = some u -> (w.alloc (.cells #[.int .i32 x] 21)).cell? ((⟨w.heap.size, 0, none⟩ : Addr).add j) = some u := by
  intro j u hj
  cases j with
  | zero => simp at hj; subst hj; exact World.cell?_alloc_new w #[.int .i32 x] 21 0
  | succ j => simp at hj
 have HA : Hid (MC xb wb wc W Q (w.alloc (.cells #[.int .i32 x] 21)) m fuel limit waits R vi) := hA
 have hzz := hA.frz 3
 have hcc := hA.stAt
 have hrx : R.st.ownBlock ≠ some xb := fun e => h.rows.xr (.inr (.inl e))
 have hxl : xb < (w.alloc (.cells #[.int .i32 x] 21)).heap.size := hA.rows.xlt
 have hxl0 := h.rows.xlt
 have HR : Hid (Rng (m.stack ++ [x])) := rng_snoc h.rows.rs hx
 clear hA
 go_enter Tryz.func105, Tryz.ntmps105
 go_wp2_with (first
  | (at_builtin; refine wpList_append_own2 rfl _ _ 129 rfl 0 21 i0 _ 1 4 Tryz.underlying129 hi hz0 hz1 hz2 rfl (by decide) _ _ _ rfl hown ⟨w.heap.size, 0, none⟩ 1 1 [.int .i32 x] rfl (by simp) hks ?h1 ?h63 ?hby ?hbase ?hh
     case h1 => intro u hu; simp at hu; subst hu; rfl
     case h63 => unfold maxLen; omega
     case hby => omega
     case hbase => exact Nat.zero_le _
     intro v' w1 hown1 hg1 hn1
     obtain ⟨va, vc, rfl⟩ := owned_slice hown1
     have hm1 : w1.cell? ⟨xb, 3, none⟩ = some R.st := hg1.cell hcc (fun e => hrx e.symm)
     have hfz1 : w1.frozen? ⟨xb, 3, none⟩ = false := (World.frozen?_of_block (w := w.alloc (.cells #[.int .i32 x] 21)) (hg1.block xb hxl (fun e => hrx e.symm))).trans hzz
     have X : Aside (MC xb wb wc W Q (w1.setCell ⟨xb, 3, none⟩ (.slice va (m.stack.length + 1) vc)) { m with stack := m.stack ++ [x] } fuel limit waits { R with st := .slice va (m.stack.length + 1) vc } vi /\ MM xb R { R with st := .slice va (m.stack.length + 1) vc } (w.alloc (.cells #[.int .i32 x] 21)) (w1.setCell ⟨xb, 3, none⟩ (.slice va (m.stack.length + 1) vc))) := HA.out.stackTo hg1 (by simpa using hown1) hn1 HR.out))
 go_end0
 exact ⟨rfl, _, X.out.1, (MM.of_below (k1 _)).trans X.out.2⟩
theorem pop_any (h : MC xb wb wc W Q w m fuel limit waits R vi) {x : Int} (hx : m.stack.getLast? = some x) (hbig : m.stack.length <= 1000000) :
  Calls Tryz.prog 106 #[.pointer (some ⟨xb, 0, none⟩)] w (MPo xb wb wc W Q fuel limit waits R w (.int .i32 x) { m with stack := m.stack.dropLast } vi) := by
 have hne : m.stack ≠ [] := fun e => by rw [e] at hx; cases hx
 have hpos : 0 < m.stack.length := List.length_pos_iff.2 hne
 obtain ⟨g, cap, hv, _, hgl⟩ := h.rows.st.form hpos
 obtain ⟨k, hk⟩ : ∃ k, m.stack.length = k + 1 := ⟨m.stack.length - 1, by omega⟩
 have hst := h.stAt
 have hz := h.frz 3
 have hown := h.rows.st
 have hcell : w.cell? ⟨g, k, none⟩ = some (.int .i32 x) := by
  rw [hv] at hown
  rw [hown.cellAt k (by omega), List.getElem?_map]
  have : m.stack[k]? = some x := by rw [List.getLast?_eq_getElem?] at hx; rw [<- hx]; congr 1; omega
  rw [this]; rfl
 have HC := h.stackCut hv (k := k) (by omega)
 have hdl : m.stack.take k = m.stack.dropLast := by rw [List.dropLast_eq_take]; congr 1; omega
 rw [hdl] at HC
 have HC2 : Hid _ := HC
 have hcap : k + 1 <= cap := by
  rcases hown.2 with ⟨e, e2⟩ | ⟨g', cap', cur, e, _, _, hle, _⟩
  ·omega
  ·rw [hv] at e; injection e with e1 e2 e3; omega
 rw [hv, hk] at hst
 have hkb : k <= 1000000 := by omega
 clear hown HC hdl hv hpos hne
 go_enter Tryz.func106, Tryz.ntmps106
 go_wp2
 go_ret
 exact ⟨rfl, _, HC2.out.1, HC2.out.2⟩
end
theorem i64_of_i32 {x : Int} (h : -2147483648 <= x /\ x <= 2147483647) : IntKind.i64.wrap x = x := by
 have e1 : IntKind.i64.bits = 64 := rfl
 have e2 : IntKind.i64.signed = true := rfl
 have e3 : (2 : Int) ^ 64 = 18446744073709551616 := by decide
 have e4 : (2 : Int) ^ (64 - 1) = 9223372036854775808 := by decide
 unfold IntKind.wrap
 simp only [e1, e2, e3, e4]
 by_cases hx : 0 <= x
 ·rw [if_neg (by simp; omega)]; omega
 ·rw [if_pos (by simp; omega)]; omega
theorem rng_last {l : List Int} (h : Rng l) {x : Int} (hx : l.getLast? = some x) : -2147483648 <= x /\ x <= 2147483647 := h x (List.mem_of_getLast? hx)
section
variable {xb wb wc fuel limit : Nat} {W : List Nat} {Q : Nat -> Prop} {w w' w1 : World} {m : MS} {waits : Bool} {R : MR} {vi : Value}
theorem unit_end (h : MC xb wb wc W Q w m fuel limit waits R vi) (hu : m.used = fuel) :
  Calls Tryz.prog 104 #[.pointer (some ⟨xb, 0, none⟩)] w (MPo xb wb wc W Q fuel limit waits R w (.tuple #[]) (m.end_ 8) vi) := by
 have hc := h.usAt
 have hf := h.fuAt
 have hb : ((m.used : Int) == (fuel : Int)) = true := by simp [hu]
 have HE := mend_any (h.below (Below.refl _ _).drew) 8
 unfold MPo at HE
 clear hu
 go_enter Tryz.func104, Tryz.ntmps104
 go_wp2
 go_region
 all_goals go_wp2_with (go_at_call 103; refine HE.mono ?_; rintro e w2 ⟨rfl, R2, hM2, hk2⟩)
 all_goals go_end0
 all_goals exact ⟨rfl, R2, hM2, (MM.of_below (Below.refl _ _).drew).trans hk2⟩
theorem unit_wait (h : MC xb wb wc W Q w m fuel limit waits R vi) (hu : m.used ≠ fuel) (hl : m.used = limit) (hp : 0 < m.pc) (hpb : m.pc <= 1000000) :
  Calls Tryz.prog 104 #[.pointer (some ⟨xb, 0, none⟩)] w (MPo xb wb wc W Q fuel limit true R w (.tuple #[]) { m with pc := m.pc - 1 } vi) := by
 have hc := h.usAt
 have hf := h.fuAt
 have hli := h.liAt
 have hb : ((m.used : Int) == (fuel : Int)) = false := by simp; omega
 have hb2 : ((m.used : Int) == (limit : Int)) = true := by simp [hl]
 have HE := wait_any (h.below ((Below.refl _ _).drew).drew) hp hpb
 unfold MPo at HE
 clear hu hl
 go_enter Tryz.func104, Tryz.ntmps104
 go_wp2
 go_region
 all_goals go_wp2
 all_goals go_region
 all_goals go_wp2_with (go_at_call 133; refine HE.mono ?_; rintro e w2 ⟨rfl, R2, hM2, hk2⟩)
 all_goals go_end0
 all_goals exact ⟨rfl, R2, hM2, (MM.of_below ((Below.refl _ _).drew).drew).trans hk2⟩
theorem unit_go (h : MC xb wb wc W Q w m fuel limit waits R vi) (hu : m.used ≠ fuel) (hl : m.used ≠ limit) (hub : m.used <= 1000000) :
  Calls Tryz.prog 104 #[.pointer (some ⟨xb, 0, none⟩)] w (MPo xb wb wc W Q fuel limit waits R w (.tuple #[]) { m with used := m.used + 1 } vi) := by
 have hc := h.usAt
 have hf := h.fuAt
 have hli := h.liAt
 have hz := h.frz 11
 have hb : ((m.used : Int) == (fuel : Int)) = false := by simp; omega
 have hb2 : ((m.used : Int) == (limit : Int)) = false := by simp; omega
 have HS : Hid _ := (h.below ((Below.refl _ _).drew).drew).setUsed (m.used + 1)
 clear hu hl
 go_enter Tryz.func104, Tryz.ntmps104
 go_wp2
 go_region
 all_goals go_wp2
 all_goals go_region
 all_goals go_wp2
 all_goals go_end0
 all_goals exact ⟨rfl, R, HS.out.1, (MM.of_below ((Below.refl _ _).drew).drew).trans HS.out.2⟩
theorem unless_any (h : MC xb wb wc W Q w m fuel limit waits R vi) {x : Int} (hx : m.stack.getLast? = some x) (hbig : m.stack.length <= 1000000) (a : Nat) :
  Calls Tryz.prog 108 #[.pointer (some ⟨xb, 0, none⟩), .int .i64 (a : Nat)] w (MPo xb wb wc W Q fuel limit waits R w (.tuple #[]) (if x = 0 then { m with pc := a, stack := m.stack.dropLast } else { m with stack := m.stack.dropLast }) vi) := by
 have HP := pop_any h hx hbig
 unfold MPo at HP
 have HS : ∀ W2 R2, MC xb wb wc W Q W2 { m with stack := m.stack.dropLast } fuel limit waits R2 vi -> MC xb wb wc W Q (W2.setCell ⟨xb, 1, none⟩ (.int .i64 (a : Nat))) { m with pc := a, stack := m.stack.dropLast } fuel limit waits R2 vi /\ MM xb R2 R2 W2 (W2.setCell ⟨xb, 1, none⟩ (.int .i64 (a : Nat))) := fun W2 R2 hM => hM.setPc a
 by_cases h0 : x = 0
 ·rw [if_pos h0]
  have hb : (x == 0) = true := by simp [h0]
  clear h0 hx
  generalize ({ m with pc := a, stack := m.stack.dropLast } : MS) = m9 at *
  go_enter Tryz.func108, Tryz.ntmps108
  go_wp2_with (go_at_call 106; refine HP.mono ?_; rintro e w2 ⟨rfl, R2, hM2, hk2⟩; have hc2 := hM2.pcAt; have hz2 := hM2.frz 1; have HS2 : Hid _ := HS _ _ hM2)
  go_end0
  exact ⟨rfl, R2, HS2.out.1, hk2.trans HS2.out.2⟩
 ·rw [if_neg h0]
  have hb : (x == 0) = false := by simp [h0]
  clear hx
  go_enter Tryz.func108, Tryz.ntmps108
  go_wp2_with (go_at_call 106; refine HP.mono ?_; rintro e w2 ⟨rfl, R2, hM2, hk2⟩)
  go_end0
  exact ⟨rfl, R2, hM2, hk2⟩
theorem mfind_any (h : MC xb wb wc W Q w m fuel limit waits R vi) {x : Int} (hx : m.stack.getLast? = some x) (hbig : m.stack.length <= 1000000) (a n : Nat) (ha : a <= 2147483647) :
  Calls Tryz.prog 107 #[.pointer (some ⟨xb, 0, none⟩), .int .i64 (a : Nat), .int .i64 (n : Nat)] w (MPo xb wb wc W Q fuel limit waits R w (.tuple #[]) (if x < 0 ∨ (n : Int) <= x then ({ m with stack := m.stack.dropLast } : MS).end_ 9 else { m with stack := m.stack.dropLast ++ [wrapV (a + x)] }) vi) := by
 have HP := pop_any h hx hbig
 have hr := rng_last h.rows.rs hx
 have hw64 := i64_of_i32 hr
 have hw32 := i32_wrap ((a : Int) + x)
 have hl : m.stack.dropLast.length <= 1000000 := by rw [List.length_dropLast]; omega
 have HE := fun W2 R2 (hM : MC xb wb wc W Q W2 { m with stack := m.stack.dropLast } fuel limit waits R2 vi) => mend_any hM 9
 have HU := fun W2 R2 (hM : MC xb wb wc W Q W2 { m with stack := m.stack.dropLast } fuel limit waits R2 vi) => push_any hM (wrapV_rng ((a : Int) + x)) hl
 unfold MPo at HP HE HU
 by_cases h0 : x < 0
 ·rw [if_pos (.inl h0)]
  clear hx
  go_enter Tryz.func107, Tryz.ntmps107
  go_wp2_with (first
   | (go_at_call 106; refine HP.mono ?_; rintro e w2 ⟨rfl, R2, hM2, hk2⟩)
   | (go_at_call 103; refine (HE _ _ hM2).mono ?_; rintro e w3 ⟨rfl, R3, hM3, hk3⟩))
  go_end0
  exact ⟨rfl, R3, hM3, hk2.trans hk3⟩
 ·by_cases h1 : (n : Int) <= x
  ·rw [if_pos (.inr h1)]
   clear hx
   go_enter Tryz.func107, Tryz.ntmps107
   go_wp2_with (first
    | (go_at_call 106; refine HP.mono ?_; rintro e w2 ⟨rfl, R2, hM2, hk2⟩)
    | (go_at_call 103; refine (HE _ _ hM2).mono ?_; rintro e w3 ⟨rfl, R3, hM3, hk3⟩))
   go_end0
   exact ⟨rfl, R3, hM3, hk2.trans hk3⟩
  ·rw [if_neg (by omega)]
   have HQ : ∀ W2 R2, MC xb wb wc W Q W2 (({ m with stack := m.stack.dropLast } : MS).push (wrapV ((a : Int) + x))) fuel limit waits R2 vi -> MC xb wb wc W Q W2 { m with stack := m.stack.dropLast ++ [wrapV ((a : Int) + x)] } fuel limit waits R2 vi := fun _ _ h => h
   clear hx
   generalize ({ m with stack := m.stack.dropLast ++ [wrapV ((a : Int) + x)] } : MS) = m9 at *
   go_enter Tryz.func107, Tryz.ntmps107
   go_wp2_with (first
    | (go_at_call 106; refine HP.mono ?_; rintro e w2 ⟨rfl, R2, hM2, hk2⟩)
    | (go_at_call 105; refine (HU _ _ hM2).mono ?_; rintro e w3 ⟨rfl, R3, hM3, hk3⟩))
   go_end0
   exact ⟨rfl, R3, HQ _ _ hM3, hk2.trans hk3⟩
theorem mtruth_any (b : Bool) (w : World) : Calls Tryz.prog 134 #[.bool b] w fun e w' => e = .returned (.int .i32 (truthV b)) /\ w' = w := by
 cases b
 ·go_enter Tryz.func134, Tryz.ntmps134
  go_wp2
  go_ret
  exact ⟨rfl, rfl⟩
 ·go_enter Tryz.func134, Tryz.ntmps134
  go_wp2
  go_ret
  exact ⟨rfl, rfl⟩
end
section
variable {xb wb wc fuel limit : Nat} {W : List Nat} {Q : Nat -> Prop} {w w' w1 : World} {m : MS} {waits : Bool} {R : MR} {vi : Value}
theorem mcall_end (h : MC xb wb wc W Q w m fuel limit waits R vi) (h30 : m.calls.length = 30) (a n : Nat) :
  Calls Tryz.prog 109 #[.pointer (some ⟨xb, 0, none⟩), .int .i64 (a : Nat), .int .i64 (n : Nat)] w (MPo xb wb wc W Q fuel limit waits R w (.tuple #[]) (m.end_ 13) vi) := by
 have hc := h.caAt
 obtain ⟨va, vc, hv⟩ := owned_slice h.rows.ca
 rw [hv, h30] at hc
 have HE := mend_any h 13
 unfold MPo at HE
 clear hv
 go_enter Tryz.func109, Tryz.ntmps109
 go_wp2_with (go_at_call 103; refine HE.mono ?_; rintro e w2 ⟨rfl, R2, hM2, hk2⟩)
 go_end0
 exact ⟨rfl, R2, hM2, hk2⟩
theorem mcall_go (h : MC xb wb wc W Q w m fuel limit waits R vi) (h30 : m.calls.length ≠ 30) (a n : Nat) (hn : n <= m.stack.length) (hbig : m.stack.length <= 1000000) :
  Calls Tryz.prog 109 #[.pointer (some ⟨xb, 0, none⟩), .int .i64 (a : Nat), .int .i64 (n : Nat)] w (MPo xb wb wc W Q fuel limit waits R w (.tuple #[]) { m with pc := a, calls := m.calls ++ [(m.pc, m.base)], base := m.stack.length - n } vi) := by
 have hle := h.rows.c30
 have h29 : m.calls.length <= 29 := by omega
 obtain ⟨i0, hi, hz0, hz1, hz2⟩ := info_parts Tryz.infoFrame
 obtain ⟨va, vc, hv⟩ := owned_slice h.rows.ca
 obtain ⟨sa, sc, hsv⟩ := owned_slice h.rows.st
 have hc5 := h.caAt
 have hc1 := h.pcAt
 have hc4 := h.baAt
 have k1 : ∀ A, Below w.heap.size w (w.alloc A).drew := fun A => ((Below.refl _ _).alloc (Nat.le_refl _) _).drew
 have HA : Hid (MC xb wb wc W Q (w.alloc (.cells #[.int .i64 (m.pc : Nat), .int .i64 (m.base : Nat)] 228)).drew m fuel limit waits R vi) := h.below (k1 _)
 have hown := HA.out.rows.ca
 have hrx : R.ca.ownBlock ≠ some xb := fun e => h.rows.xr (.inr (.inr (.inl e)))
 have hxl := h.rows.xlt
 have hnb : (w.alloc (.cells #[.int .i64 (m.pc : Nat), .int .i64 (m.base : Nat)] 228)).heap[w.heap.size]? = some (.cells #[.int .i64 (m.pc : Nat), .int .i64 (m.base : Nat)] 228) := heap_alloc_new w _
 have hst : HA.out.stAt = HA.out.stAt := rfl
 clear hst
 have HG : Hid (∀ (w1 : World) (gg cp : Nat), (w.alloc (.cells #[.int .i64 (m.pc : Nat), .int .i64 (m.base : Nat)] 228)).drew.grownBy w1 R.ca.ownBlock -> w1.ownsRow 0 228 2 (.slice (some ⟨gg, 0, none⟩) (m.calls.length + 1) cp) (m.calls.length + 1) (flatF m.calls ++ [.int .i64 (m.pc : Nat), .int .i64 (m.base : Nat)]) -> (R.ca.ownBlock = some gg ∨ gg = w.heap.size + 1) ->
   (w1.cell? ⟨xb, 5, none⟩ = some R.ca /\ w1.cell? ⟨xb, 3, none⟩ = some (.slice sa m.stack.length sc) /\ w1.cell? ⟨xb, 4, none⟩ = some (.int .i64 (m.base : Nat)) /\ w1.cell? ⟨xb, 1, none⟩ = some (.int .i64 (m.pc : Nat)) /\ (∀ o, w1.frozen? ⟨xb, o, none⟩ = false)) /\
   ∃ R', MC xb wb wc W Q (((w1.setCell ⟨xb, 5, none⟩ (.slice (some ⟨gg, 0, none⟩) (m.calls.length + 1) cp)).setCell ⟨xb, 4, none⟩ (.int .i64 ((m.stack.length - n : Nat) : Int))).setCell ⟨xb, 1, none⟩ (.int .i64 (a : Nat))) { m with pc := a, calls := m.calls ++ [(m.pc, m.base)], base := m.stack.length - n } fuel limit waits R' vi /\
    MM xb R R' w (((w1.setCell ⟨xb, 5, none⟩ (.slice (some ⟨gg, 0, none⟩) (m.calls.length + 1) cp)).setCell ⟨xb, 4, none⟩ (.int .i64 ((m.stack.length - n : Nat) : Int))).setCell ⟨xb, 1, none⟩ (.int .i64 (a : Nat)))) := by
  intro w1 gg cp hg ho hat
  obtain ⟨hcs, hfs⟩ := HA.out.cellsG hg hrx
  refine ⟨⟨hcs 5 _ rfl, (hcs 3 _ rfl).trans (by rw [hsv]), hcs 4 _ rfl, hcs 1 _ rfl, hfs⟩, ?_⟩
  have hsz : (w.alloc (.cells #[.int .i64 (m.pc : Nat), .int .i64 (m.base : Nat)] 228)).drew.heap.size = w.heap.size + 1 := by show (w.alloc _).heap.size = _; simp
  have t1 := HA.out.callsTo (s' := m.calls ++ [(m.pc, m.base)]) hg (by rw [List.length_append, flatF_snoc]; exact ho) (by
   rcases hat with e | e
   ·exact .inl e.symm
   ·refine .inr fun k hk => ?_
    have : gg = k := by simpa [Value.ownBlock] using hk
    rw [hsz]; omega) (by rw [List.length_append]; simp; omega)
  have t2 := t1.1.setBase (m.stack.length - n)
  have t3 := t2.1.setPc a
  exact ⟨_, t3.1, (MM.of_below (k1 _)).trans (t1.2.trans (t2.2.trans t3.2))⟩
 have hcl : m.calls.length <= 1000000 := by omega
 rw [hv] at hc5
 have HV : Hid (R.ca = .slice va m.calls.length vc) := hv
 have HL : Hid (∀ (w1 : World), w1.cell? ⟨xb, 5, none⟩ = some R.ca -> w1.cell? ⟨xb, 5, none⟩ = some (.slice va m.calls.length vc)) := fun w1 hh => by rw [hh, hv]
 rw [hv] at hown
 have HOB : Hid (R.ca.ownBlock = (Value.slice va m.calls.length vc).ownBlock) := by show _ = _; rw [hv]
 clear hv hsv h hle
 generalize hst5 : m.calls.length = cl at *
 generalize hsl : m.stack.length = sl at *
 have hb30 : ((cl : Int) == 30) = false := by simp; omega
 have HSN : Hid (((sl - n : Nat) : Int) = (sl : Int) - (n : Int)) := by show _ = _; omega
 go_enter Tryz.func109, Tryz.ntmps109
 go_wp2
 go_region_law
  ((refine step_append_lies _ (by rfl) _ _ _ (by rfl) 0 228 i0 _ 2 16 Tryz.underlying136 hi hz0 hz1 hz2 rfl (by omega) (.slice va cl vc) cl (flatF m.calls) (by rfl) hown
     ⟨w.heap.size, 0, none⟩ 1 1 [.int .i64 (m.pc : Nat), .int .i64 (m.base : Nat)] (by rfl) (by rfl) (World.news_of_block (cs := #[.int .i64 (m.pc : Nat), .int .i64 (m.base : Nat)]) (t := 228) (fr := (0, 0)) hnb) (by simp [Value.oneCell'])
     (by omega) (by unfold maxLen; omega) (by omega) (Nat.zero_le _) (w.heap.size + 1) (by simp) ?_; intro gg cp w1 hown1 hgrow hat hlt1; obtain ⟨⟨q5, q3, q4, q1, qf⟩, HFin⟩ := HG.out w1 gg cp (by rw [HOB.out]; exact hgrow) hown1 (by rw [HOB.out]; exact hat); have HFi : Hid _ := HFin; clear HFin; replace q5 := HL.out w1 q5; have qf5 := qf 5; have qf4 := qf 4; have qf1 := qf 1; clear qf))
 all_goals go_wp2
 all_goals go_end0
 all_goals (obtain ⟨R', e1, e2⟩ := HFi.out; rw [HSN.out] at e1 e2; exact ⟨rfl, R', e1, e2⟩)
theorem write_end (h : MC xb wb wc W Q w m fuel limit waits R vi) (h60 : m.out.length = 60) (x : Int) :
  Calls Tryz.prog 111 #[.pointer (some ⟨xb, 0, none⟩), .int .i32 x] w (MPo xb wb wc W Q fuel limit waits R w (.tuple #[]) (m.end_ 12) vi) := by
 have hc := h.ouAt
 obtain ⟨va, vc, hv⟩ := owned_slice h.rows.ou
 rw [hv, h60] at hc
 have HE := mend_any h 12
 unfold MPo at HE
 clear hv
 go_enter Tryz.func111, Tryz.ntmps111
 go_wp2_with (go_at_call 103; refine HE.mono ?_; rintro e w2 ⟨rfl, R2, hM2, hk2⟩)
 go_end0
 exact ⟨rfl, R2, hM2, hk2⟩
theorem write_go (h : MC xb wb wc W Q w m fuel limit waits R vi) (h60 : m.out.length ≠ 60) {x : Int} (hx : -2147483648 <= x /\ x <= 2147483647) :
  Calls Tryz.prog 111 #[.pointer (some ⟨xb, 0, none⟩), .int .i32 x] w (MPo xb wb wc W Q fuel limit waits R w (.tuple #[]) { m with out := m.out ++ [x] } vi) := by
 obtain ⟨i0, hi, hz0, hz1, hz2⟩ := info_parts Tryz.infoIntC
 have hle := h.rows.o60
 have hst := h.ouAt
 obtain ⟨va, vc, hv⟩ := owned_slice h.rows.ou
 have hw64 := i64_of_i32 hx
 have k1 : ∀ A, Below w.heap.size w (w.alloc A) := fun A => (Below.refl _ _).alloc (Nat.le_refl _) _
 have hA := h.below (k1 (.cells #[.int .i64 x] 3))
 have hown := hA.rows.ou
 have hks : ∀ j u, [Value.int .i64 x][j]? = some u -> (w.alloc (.cells #[.int .i64 x] 3)).cell? ((⟨w.heap.size, 0, none⟩ : Addr).add j) = some u := by
  intro j u hj
  cases j with
  | zero => simp at hj; subst hj; exact World.cell?_alloc_new w #[.int .i64 x] 3 0
  | succ j => simp at hj
 have HA : Hid (MC xb wb wc W Q (w.alloc (.cells #[.int .i64 x] 3)) m fuel limit waits R vi) := hA
 have hzz := hA.frz 10
 have hcc := hA.ouAt
 have hrx : R.ou.ownBlock ≠ some xb := fun e => h.rows.xr (.inr (.inr (.inr e)))
 have hxl : xb < (w.alloc (.cells #[.int .i64 x] 3)).heap.size := hA.rows.xlt
 have hxl0 := h.rows.xlt
 have HV : Hid (R.ou = .slice va m.out.length vc) := hv
 rw [hv] at hst hcc hown
 have HX : Hid (∀ (w1 : World) (v' : Value), (w.alloc (.cells #[.int .i64 x] 3)).grownBy w1 (Value.slice va m.out.length vc).ownBlock -> w1.ownsRow 0 3 1 v' (m.out.length + 1) (m.out.map (.int .i64) ++ [.int .i64 x]) -> (v'.ownBlock = (Value.slice va m.out.length vc).ownBlock ∨ ∀ k, v'.ownBlock = some k -> (w.alloc (.cells #[.int .i64 x] 3)).heap.size <= k) ->
   w1.cell? ⟨xb, 10, none⟩ = some (.slice va m.out.length vc) /\ w1.frozen? ⟨xb, 10, none⟩ = false /\ MC xb wb wc W Q (w1.setCell ⟨xb, 10, none⟩ v') { m with out := m.out ++ [x] } fuel limit waits { R with ou := v' } vi /\ MM xb R { R with ou := v' } (w.alloc (.cells #[.int .i64 x] 3)) (w1.setCell ⟨xb, 10, none⟩ v')) := by
  intro w1 v' hg ho hn
  rw [<- hv] at hg hn
  obtain ⟨hcs, hfs⟩ := HA.out.cellsG hg hrx
  have t := HA.out.outTo (s' := m.out ++ [x]) hg (by simpa using ho) hn (by rw [List.length_append]; simp; omega)
  exact ⟨(hcs 10 _ rfl).trans (by rw [hv]), hfs 10, t.1, t.2⟩
 clear hA hv
 have h60b : ((m.out.length : Int) == 60) = false := by simp; omega
 generalize hol : m.out.length = ol at *
 go_enter Tryz.func111, Tryz.ntmps111
 go_wp2_with (first
  | (at_builtin; refine wpList_append_own2 rfl _ _ 23 rfl 0 3 i0 _ 1 8 Tryz.underlying23 hi hz0 hz1 hz2 rfl (by decide) _ _ _ rfl hown ⟨w.heap.size, 0, none⟩ 1 1 [.int .i64 x] rfl (by simp) hks ?h1 ?h63 ?hby ?hbase ?hh
     case h1 => intro u hu; simp at hu; subst hu; rfl
     case h63 => unfold maxLen; omega
     case hby => omega
     case hbase => exact Nat.zero_le _
     intro v' w1 hown1 hg1 hn1
     obtain ⟨va2, vc2, rfl⟩ := owned_slice hown1
     obtain ⟨hm1, hfz1, X1, X2⟩ := HX.out w1 _ hg1 hown1 hn1))
 go_end0
 exact ⟨rfl, _, X1, (MM.of_below (k1 _)).trans X2⟩
theorem read_end (h : MC xb wb wc W Q w m fuel limit waits R vi) (h0 : m.input = []) :
  Calls Tryz.prog 112 #[.pointer (some ⟨xb, 0, none⟩)] w (MPo xb wb wc W Q fuel limit waits R w (.tuple #[]) (m.end_ 11) vi) := by
 have hc := h.inAt
 obtain ⟨va, vc, hv, _⟩ := h.rows.inp
 rw [hv, h0] at hc
 have HE := mend_any h 11
 unfold MPo at HE
 clear hv
 go_enter Tryz.func112, Tryz.ntmps112
 go_wp2_with (go_at_call 103; refine HE.mono ?_; rintro e w2 ⟨rfl, R2, hM2, hk2⟩)
 go_end0
 exact ⟨rfl, R2, hM2, hk2⟩
end
end Go.Proofs.YtklobognaldjpaaGreat
