/- The reference's walk: what is declared grows. -/
import Derived.Test.YtklobognaldjpaaGreatCDcl2
import Derived.OneCell
namespace Go.Proofs.YtklobognaldjpaaGreat
open Go.RowKit

section
variable {wb tb cap : Nat} {T : List Tok} {m : Option Nm} {n : Nm} {w w0 w4 : World} {s r : PS}

theorem RD.base (h : RD wb tb cap T w0 m w s) : w0.heap.size ≤ w.heap.size := h.par.size

/-- What was declared here has one more. -/
theorem RD.addHere (h : RD wb tb cap T w0 (some n) w s) {ys : List Value} {g cp : Nat} (y : Sy) (c2 c4 c5 : Value) (hy : y.kind = 0) (hlen : n.E.here.length ≤ 600)
    (hown : w.ownsRow w0.heap.size 207 6 n.hv n.E.here.length ys)
    (ho1 : w4.ownsRow w0.heap.size 207 6 (.slice (some ⟨g, 0, none⟩) (n.E.here.length + 1) cp) (n.E.here.length + 1) (ys ++ [.string y.name, .int .i64 y.kind, c2, .int .i64 y.args, c4, c5]))
    (hg : w.grownBy w4 n.hv.ownBlock) (hat : n.hv.ownBlock = some g ∨ g = w.heap.size) :
    RD wb tb cap T w0 (some ⟨n.E.add true y, n.gv, .slice (some ⟨g, 0, none⟩) (n.E.here.length + 1) cp⟩) (w4.setCell ⟨wb, 5, none⟩ (.slice (some ⟨g, 0, none⟩) (n.E.here.length + 1) cp)) s := by
  have hr := h.rw
  have hE := hr.env n rfl
  have hO := h.own n rfl
  have hl := h.lt
  have htl := h.tlt
  have hbs := h.base
  have hgl := (ho1.lt g rfl).1
  have hrow : ∀ k, n.hv.ownBlock = some k → w0.heap.size ≤ k := fun k hk => (hown.lt k hk).1
  have hb : w4.heap[wb]? = w.heap[wb]? := hg.block wb hr.lt (fun e => by have := hrow wb e.symm; omega)
  have hb2 : w4.heap[tb]? = w.heap[tb]? := hg.block tb hr.tlt (fun e => by have := hrow tb e.symm; omega)
  have ec : ∀ o, w4.cell? ⟨wb, o, none⟩ = w.cell? ⟨wb, o, none⟩ := fun o => World.cell?_of_block (w := w) hb
  have ex : ∀ q : Addr, q ≠ ⟨wb, 5, none⟩ → (w4.setCell ⟨wb, 5, none⟩ (.slice (some ⟨g, 0, none⟩) (n.E.here.length + 1) cp)).cell? q = w4.cell? q := fun q h2 => World.cell?_setCell_other _ _ _ _ (Ne.symm h2)
  have ew : ∀ o, o ≠ 5 → (w4.setCell ⟨wb, 5, none⟩ (.slice (some ⟨g, 0, none⟩) (n.E.here.length + 1) cp)).cell? ⟨wb, o, none⟩ = w.cell? ⟨wb, o, none⟩ := fun o ho => by rw [ex _ (by intro e; cases e; exact ho rfl), ec]
  have hsz : (w4.setCell ⟨wb, 5, none⟩ (.slice (some ⟨g, 0, none⟩) (n.E.here.length + 1) cp)).heap.size = w4.heap.size := by simp [World.setCell]
  have hgw := hg.size
  have hS : SyAt w4 (.slice (some ⟨g, 0, none⟩) (n.E.here.length + 1) cp) (n.E.here ++ [y]) := SyAt.grow hE.h hown y c2 c4 c5 ho1
  obtain ⟨xs, hx⟩ := hO.g
  have hgk : ∀ b, n.gv.ownBlock = some b → w4.heap[b]? = w.heap[b]? := fun b hb3 => hg.block b (hx.lt b hb3).2 (fun e => hO.apart b hb3 e.symm)
  refine ⟨⟨?_, ?_, ?_, ?_, ?_, ?_, ?_, hr.ne, by rw [hsz]; have := hr.tlt; omega, hr.size, ?_, ?_⟩, ?_, ?_, hl, htl⟩
  · rw [ew _ (by decide)]; exact hr.toks
  · rw [ew _ (by decide)]; exact hr.mode_
  · rw [ew _ (by decide)]; exact hr.fault
  · rw [ew _ (by decide)]; exact hr.place
  · rw [ew _ (by decide)]; exact hr.dead
  · intro o; rw [World.frozen?_setCell, World.frozen?_of_block (w := w) hb]; exact hr.frz o
  · intro j u hj; rw [ex _ (by intro e; cases e; exact hr.ne rfl), World.cell?_of_block (w := w) hb2]; exact hr.tok j u hj
  · intro n' hn'
    cases hn'
    refine ⟨?_, ?_, ?_, ?_, ?_, hE.gne, ?_, ?_, hE.glen, ?_, hE.insOk⟩
    · rw [ew _ (by decide)]; exact hE.gcell
    · exact World.cell?_setCell_same _ _ _ (by rw [ec]; exact hE.hcell)
    · rw [ew _ (by decide)]; exact hE.ins
    · refine hE.g.keep (by rw [hsz]; exact hgw) (fun b hb3 hl3 o => ?_)
      rw [ex _ (by intro e; cases e; exact hE.gne hb3), World.cell?_of_block (w := w) (hgk b hb3)]
    · refine hS.keep (by rw [hsz]; exact Nat.le_refl _) (fun b hb3 hl3 o => ?_)
      simp [Value.ownBlock] at hb3
      exact ex _ (by intro e; cases e; omega)
    · intro e
      simp [Value.ownBlock] at e
      omega
    · intro z hz
      have hz' : z ∈ n.E.here ++ [y] := hz
      rw [List.mem_append] at hz'
      rcases hz' with hz' | hz'
      · exact hE.vars z hz'
      · simp at hz'; subst hz'; exact hy
    · show (n.E.here ++ [y]).length ≤ 601
      simp; omega
  · intro o ho
    rcases ho with rfl | rfl
    · rw [World.cell?_setCell_same _ _ _ (by rw [ec]; exact hE.hcell)]; rfl
    · rw [ew _ (by decide)]; exact hr.ext 6 (.inr rfl)
  · exact (par_grown h.par hg hrow).setCell _ _
  · intro n' hn'
    cases hn'
    refine ⟨⟨xs, ?_⟩, ⟨ys ++ [.string y.name, .int .i64 y.kind, c2, .int .i64 y.args, c4, c5], ?_⟩, ?_, ?_⟩
    · exact ownsRow_setCell_below (hx.kept hg (by
        cases e : n.gv.ownBlock with
        | none => exact .inl rfl
        | some b => right; intro e2; exact hO.apart b e e2.symm)) (a := ⟨wb, 5, none⟩) hl _
    · have : (n.E.add true y).here.length = n.E.here.length + 1 := by show (n.E.here ++ [y]).length = _; simp
      rw [this]
      exact ownsRow_setCell_below ho1 (a := ⟨wb, 5, none⟩) hl _
    · intro b hb3 e
      simp [Value.ownBlock] at e
      subst e
      rcases hat with h1 | h1
      · exact hO.apart _ hb3 h1
      · have := (hx.lt _ hb3).2; omega
    · intro hf gb hgb
      have h9 := hO.last hf gb hgb
      rw [ex _ (by intro e; have e2 : gb = wb := congrArg Addr.block e; exact hE.gne (e2 ▸ hgb)), World.cell?_of_block (w := w) (hgk gb hgb)]
      exact h9

/-- What was declared outside has one more. -/
theorem RD.addGlob (h : RD wb tb cap T w0 (some n) w s) {ys : List Value} {g cp : Nat} (y : Sy) (c2 c4 c5 : Value) (hc4 : c4 = .slice none 0 0) (hlen : n.E.glob.length ≤ 600)
    (hown : w.ownsRow w0.heap.size 207 6 n.gv n.E.glob.length ys)
    (ho1 : w4.ownsRow w0.heap.size 207 6 (.slice (some ⟨g, 0, none⟩) (n.E.glob.length + 1) cp) (n.E.glob.length + 1) (ys ++ [.string y.name, .int .i64 y.kind, c2, .int .i64 y.args, c4, c5]))
    (hg : w.grownBy w4 n.gv.ownBlock) (hat : n.gv.ownBlock = some g ∨ g = w.heap.size) :
    RD wb tb cap T w0 (some ⟨n.E.add false y, .slice (some ⟨g, 0, none⟩) (n.E.glob.length + 1) cp, n.hv⟩) (w4.setCell ⟨wb, 4, none⟩ (.slice (some ⟨g, 0, none⟩) (n.E.glob.length + 1) cp)) s := by
  have hr := h.rw
  have hE := hr.env n rfl
  have hO := h.own n rfl
  have hl := h.lt
  have htl := h.tlt
  have hbs := h.base
  have hgl := (ho1.lt g rfl).1
  have hrow : ∀ k, n.gv.ownBlock = some k → w0.heap.size ≤ k := fun k hk => (hown.lt k hk).1
  have hb : w4.heap[wb]? = w.heap[wb]? := hg.block wb hr.lt (fun e => by have := hrow wb e.symm; omega)
  have hb2 : w4.heap[tb]? = w.heap[tb]? := hg.block tb hr.tlt (fun e => by have := hrow tb e.symm; omega)
  have ec : ∀ o, w4.cell? ⟨wb, o, none⟩ = w.cell? ⟨wb, o, none⟩ := fun o => World.cell?_of_block (w := w) hb
  have ex : ∀ q : Addr, q ≠ ⟨wb, 4, none⟩ → (w4.setCell ⟨wb, 4, none⟩ (.slice (some ⟨g, 0, none⟩) (n.E.glob.length + 1) cp)).cell? q = w4.cell? q := fun q h2 => World.cell?_setCell_other _ _ _ _ (Ne.symm h2)
  have ew : ∀ o, o ≠ 4 → (w4.setCell ⟨wb, 4, none⟩ (.slice (some ⟨g, 0, none⟩) (n.E.glob.length + 1) cp)).cell? ⟨wb, o, none⟩ = w.cell? ⟨wb, o, none⟩ := fun o ho => by rw [ex _ (by intro e; cases e; exact ho rfl), ec]
  have hsz : (w4.setCell ⟨wb, 4, none⟩ (.slice (some ⟨g, 0, none⟩) (n.E.glob.length + 1) cp)).heap.size = w4.heap.size := by simp [World.setCell]
  have hgw := hg.size
  have hS : SyAt w4 (.slice (some ⟨g, 0, none⟩) (n.E.glob.length + 1) cp) (n.E.glob ++ [y]) := SyAt.grow hE.g hown y c2 c4 c5 ho1
  obtain ⟨xs, hx⟩ := hO.h
  have hgk : ∀ b, n.hv.ownBlock = some b → w4.heap[b]? = w.heap[b]? := fun b hb3 => hg.block b (hx.lt b hb3).2 (fun e => hO.apart b e.symm hb3)
  refine ⟨⟨?_, ?_, ?_, ?_, ?_, ?_, ?_, hr.ne, by rw [hsz]; have := hr.tlt; omega, hr.size, ?_, ?_⟩, ?_, ?_, hl, htl⟩
  · rw [ew _ (by decide)]; exact hr.toks
  · rw [ew _ (by decide)]; exact hr.mode_
  · rw [ew _ (by decide)]; exact hr.fault
  · rw [ew _ (by decide)]; exact hr.place
  · rw [ew _ (by decide)]; exact hr.dead
  · intro o; rw [World.frozen?_setCell, World.frozen?_of_block (w := w) hb]; exact hr.frz o
  · intro j u hj; rw [ex _ (by intro e; cases e; exact hr.ne rfl), World.cell?_of_block (w := w) hb2]; exact hr.tok j u hj
  · intro n' hn'
    cases hn'
    refine ⟨?_, ?_, ?_, ?_, ?_, ?_, hE.hne, hE.vars, ?_, hE.hlen, ?_⟩
    · exact World.cell?_setCell_same _ _ _ (by rw [ec]; exact hE.gcell)
    · rw [ew _ (by decide)]; exact hE.hcell
    · rw [ew _ (by decide)]; exact hE.ins
    · refine hS.keep (by rw [hsz]; exact Nat.le_refl _) (fun b hb3 hl3 o => ?_)
      simp [Value.ownBlock] at hb3
      exact ex _ (by intro e; cases e; omega)
    · refine hE.h.keep (by rw [hsz]; exact hgw) (fun b hb3 hl3 o => ?_)
      rw [ex _ (by intro e; cases e; exact hE.hne hb3), World.cell?_of_block (w := w) (hgk b hb3)]
    · intro e
      simp [Value.ownBlock] at e
      omega
    · show (n.E.glob ++ [y]).length ≤ 601
      simp; omega
    · intro k hk
      have := hE.insOk k hk
      show k < (n.E.glob ++ [y]).length
      simp; omega
  · intro o ho
    rcases ho with rfl | rfl
    · rw [ew _ (by decide)]; exact hr.ext 5 (.inl rfl)
    · rw [ew _ (by decide)]; exact hr.ext 6 (.inr rfl)
  · exact (par_grown h.par hg hrow).setCell _ _
  · intro n' hn'
    cases hn'
    refine ⟨⟨ys ++ [.string y.name, .int .i64 y.kind, c2, .int .i64 y.args, c4, c5], ?_⟩, ⟨xs, ?_⟩, ?_, ?_⟩
    · have : (n.E.add false y).glob.length = n.E.glob.length + 1 := by show (n.E.glob ++ [y]).length = _; simp
      rw [this]
      exact ownsRow_setCell_below ho1 (a := ⟨wb, 4, none⟩) hl _
    · exact ownsRow_setCell_below (hx.kept hg (by
        cases e : n.hv.ownBlock with
        | none => exact .inl rfl
        | some b => right; intro e2; exact hO.apart b e2.symm e)) (a := ⟨wb, 4, none⟩) hl _
    · intro b hb3 e
      simp [Value.ownBlock] at hb3
      subst hb3
      rcases hat with h1 | h1
      · exact hO.apart _ h1 e
      · have := (hx.lt _ e).2; omega
    · intro hf gb hgb
      have e1 : gb = g := by simp [Value.ownBlock] at hgb; exact hgb.symm
      subst e1
      have e2 : ((n.E.add false y).glob.length - 1) * 6 + 4 = n.E.glob.length * 6 + 4 := by
        show ((n.E.glob ++ [y]).length - 1) * 6 + 4 = _
        simp
      show (w4.setCell ⟨wb, 4, none⟩ _).cell? ⟨gb, ((n.E.add false y).glob.length - 1) * 6 + 4, none⟩ = _
      rw [e2, ex _ (by intro e; have e3 : gb = wb := congrArg Addr.block e; omega), ho1.cellAt _ (by omega), hc4]
      have hxl : ys.length = n.E.glob.length * 6 := hown.1
      rw [List.getElem?_append_right (by omega), hxl]
      simp

/-- A field of what was declared outside that is not looked at here. -/
theorem RD.setGlob (h : RD wb tb cap T w0 (some n) w s) {gb cp : Nat} (hv : n.gv = .slice (some ⟨gb, 0, none⟩) n.E.glob.length cp) (k c : Nat) (hc : (c = 4 ∧ n.E.fresh = false) ∨ c = 5) (u : Value) :
    RD wb tb cap T w0 (some n) (w.setCell ⟨gb, k * 6 + c, none⟩ u) s := by
  have hr := h.rw
  have hE := hr.env n rfl
  have hO := h.own n rfl
  have hl := h.lt
  have htl := h.tlt
  obtain ⟨xs, hx⟩ := hO.g
  obtain ⟨ys, hy⟩ := hO.h
  have hgb : n.gv.ownBlock = some gb := by rw [hv]; rfl
  have hgl := (hx.lt gb hgb).1
  have hst := (hv ▸ hx : w.ownsRow w0.heap.size 207 6 (.slice (some ⟨gb, 0, none⟩) n.E.glob.length cp) n.E.glob.length xs).stored (k * 6 + c) u
  have ex : ∀ q : Addr, q.block ≠ gb → (w.setCell ⟨gb, k * 6 + c, none⟩ u).cell? q = w.cell? q := fun q h2 => World.cell?_setCell_other _ _ _ _ (by intro e; subst e; exact h2 rfl)
  have hsz : (w.setCell ⟨gb, k * 6 + c, none⟩ u).heap.size = w.heap.size := by simp [World.setCell]
  refine ⟨⟨?_, ?_, ?_, ?_, ?_, ?_, ?_, hr.ne, by rw [hsz]; exact hr.tlt, hr.size, ?_, ?_⟩, ?_, ?_, hl, htl⟩
  · rw [ex _ (by show wb ≠ gb; omega)]; exact hr.toks
  · rw [ex _ (by show wb ≠ gb; omega)]; exact hr.mode_
  · rw [ex _ (by show wb ≠ gb; omega)]; exact hr.fault
  · rw [ex _ (by show wb ≠ gb; omega)]; exact hr.place
  · rw [ex _ (by show wb ≠ gb; omega)]; exact hr.dead
  · intro o; rw [World.frozen?_setCell]; exact hr.frz o
  · intro j u hj; rw [ex _ (by show tb ≠ gb; omega)]; exact hr.tok j u hj
  · intro n' hn'
    cases hn'
    refine ⟨?_, ?_, ?_, ?_, ?_, hE.gne, hE.hne, hE.vars, hE.glen, hE.hlen, hE.insOk⟩
    · rw [ex _ (by show wb ≠ gb; omega)]; exact hE.gcell
    · rw [ex _ (by show wb ≠ gb; omega)]; exact hE.hcell
    · rw [ex _ (by show wb ≠ gb; omega)]; exact hE.ins
    · rcases hE.g with ⟨e1, e2⟩ | ⟨b, cp2, e1, hb, hcells⟩
      · exact .inl ⟨e1, e2⟩
      · refine .inr ⟨b, cp2, e1, by rw [hsz]; exact hb, fun j y hj => ?_⟩
        have e3 : b = gb := by rw [e1] at hgb; simpa [Value.ownBlock] using hgb
        subst e3
        obtain ⟨a0, a1, a2⟩ := hcells j y hj
        refine ⟨?_, ?_, ?_⟩
        · rw [World.cell?_setCell_other _ _ _ _ (by intro e; simp only [Addr.mk.injEq, true_and, and_true] at e; omega)]; exact a0
        · rw [World.cell?_setCell_other _ _ _ _ (by intro e; simp only [Addr.mk.injEq, true_and, and_true] at e; omega)]; exact a1
        · rw [World.cell?_setCell_other _ _ _ _ (by intro e; simp only [Addr.mk.injEq, true_and, and_true] at e; omega)]; exact a2
    · exact hE.h.keep (by rw [hsz]; exact Nat.le_refl _) (fun b hb3 hl3 o => ex _ (by intro e; have e' : b = gb := e; subst e'; exact hO.apart _ hgb hb3))
  · intro o ho; rw [ex _ (by show wb ≠ gb; omega)]; exact hr.ext o ho
  · exact h.par.setNew hgl _
  · intro n' hn'
    cases hn'
    refine ⟨⟨_, by rw [hv]; exact hst.1⟩, ⟨ys, ?_⟩, hO.apart, ?_⟩
    · exact ownsRow_setCell_other hy (by intro e; exact hO.apart _ hgb e) _
    · intro hf gb2 hgb2
      have e1 : gb2 = gb := by rw [hgb] at hgb2; exact (Option.some.inj hgb2).symm
      subst e1
      rcases hc with ⟨_, hf2⟩ | rfl
      · rw [hf] at hf2; cases hf2
      · rw [World.cell?_setCell_other _ _ _ _ (by intro e; simp only [Addr.mk.injEq, true_and, and_true] at e; omega)]
        exact hO.last hf gb2 hgb2

/-- Another row of the call's own grew. -/
theorem RD.grownElse (h : RD wb tb cap T w0 m w s) {v : Value} (hg : w.grownBy w4 v.ownBlock) (hv : ∀ k, v.ownBlock = some k → w0.heap.size ≤ k) (ha : ∀ n, m = some n → ∀ b, v.ownBlock = some b → n.gv.ownBlock ≠ some b ∧ n.hv.ownBlock ≠ some b) :
    RD wb tb cap T w0 m w4 s := by
  have hr := h.rw
  have hl := h.lt
  have htl := h.tlt
  have hb : w4.heap[wb]? = w.heap[wb]? := hg.block wb hr.lt (fun e => by have := hv wb e.symm; omega)
  have hb2 : w4.heap[tb]? = w.heap[tb]? := hg.block tb hr.tlt (fun e => by have := hv tb e.symm; omega)
  have e : ∀ o, w4.cell? ⟨wb, o, none⟩ = w.cell? ⟨wb, o, none⟩ := fun o => World.cell?_of_block (w := w) hb
  refine ⟨⟨by rw [e]; exact hr.toks, by rw [e]; exact hr.mode_, by rw [e]; exact hr.fault, by rw [e]; exact hr.place, by rw [e]; exact hr.dead,
    fun o => by rw [World.frozen?_of_block (w := w) hb]; exact hr.frz o,
    fun j u hj => by rw [World.cell?_of_block (w := w) hb2]; exact hr.tok j u hj, hr.ne, Nat.lt_of_lt_of_le hr.tlt hg.size, hr.size,
    fun n hn => (hr.env n hn).keep hg.size (e 4) (e 5) (e 6) (fun b hb3 _ hl3 o => World.cell?_of_block (w := w) (hg.block b hl3 (fun e2 => ?_))), fun o ho => by rw [e]; exact hr.ext o ho⟩, par_grown h.par hg hv, fun n hn => ?_, hl, htl⟩
  · rcases hb3 with h3 | h3
    · exact (ha n hn b e2.symm).1 h3
    · exact (ha n hn b e2.symm).2 h3
  · have hO := h.own n hn
    obtain ⟨xs, hx⟩ := hO.g
    obtain ⟨ys, hy⟩ := hO.h
    refine ⟨⟨xs, hx.kept hg ?_⟩, ⟨ys, hy.kept hg ?_⟩, hO.apart, ?_⟩
    · cases e3 : n.gv.ownBlock with
      | none => exact .inl rfl
      | some b => right; intro e2; exact (ha n hn b e2.symm).1 e3
    · cases e3 : n.hv.ownBlock with
      | none => exact .inl rfl
      | some b => right; intro e2; exact (ha n hn b e2.symm).2 e3
    · intro hf gb hgb
      rw [World.cell?_of_block (w := w) (hg.block gb (hx.lt gb hgb).2 (fun e2 => (ha n hn gb e2.symm).1 hgb))]
      exact hO.last hf gb hgb

/-- Of the last one outside nothing is known any more. -/
def Nm.stale (n : Nm) : Nm := ⟨{ n.E with fresh := false }, n.gv, n.hv⟩

theorem RD.stale (h : RD wb tb cap T w0 (some n) w s) : RD wb tb cap T w0 (some n.stale) w s := by
  have hr := h.rw
  have hE := hr.env n rfl
  have hO := h.own n rfl
  exact ⟨⟨hr.toks, hr.mode_, hr.fault, hr.place, hr.dead, hr.frz, hr.tok, hr.ne, hr.tlt, hr.size, fun n' hn' => by
    cases hn'
    exact ⟨hE.gcell, hE.hcell, hE.ins, hE.g, hE.h, hE.gne, hE.hne, hE.vars, hE.glen, hE.hlen, hE.insOk⟩, hr.ext⟩, h.par, fun n' hn' => by
    cases hn'
    exact ⟨hO.g, hO.h, hO.apart, fun hf => by cases hf⟩, h.lt, h.tlt⟩

/-- What lies beside the walk's names, outside and here. -/
def Nm.leave (n : Nm) : Nm := ⟨n.E.leave, n.gv, .slice none 0 0⟩
def Nm.enter (n : Nm) : Nm := ⟨n.E.enter, n.gv, n.hv⟩

/-- Within a body. -/
theorem RD.enter (h : RD wb tb cap T w0 (some n) w s) (hne : 0 < n.E.glob.length) :
    RD wb tb cap T w0 (some n.enter) (w.setCell ⟨wb, 6, none⟩ (.int .i64 ((n.E.glob.length : Int) - 1))) s := by
  have hr := h.rw
  have hE := hr.env n rfl
  have hO := h.own n rfl
  have hl := h.lt
  have htl := h.tlt
  obtain ⟨xs, hx⟩ := hO.g
  obtain ⟨ys, hy⟩ := hO.h
  have ex : ∀ q : Addr, q ≠ ⟨wb, 6, none⟩ → (w.setCell ⟨wb, 6, none⟩ (.int .i64 ((n.E.glob.length : Int) - 1))).cell? q = w.cell? q := fun q h2 => World.cell?_setCell_other _ _ _ _ (Ne.symm h2)
  have hsz : (w.setCell ⟨wb, 6, none⟩ (.int .i64 ((n.E.glob.length : Int) - 1))).heap.size = w.heap.size := by simp [World.setCell]
  refine ⟨⟨?_, ?_, ?_, ?_, ?_, ?_, ?_, hr.ne, by rw [hsz]; exact hr.tlt, hr.size, ?_, ?_⟩, ?_, ?_, hl, htl⟩
  · rw [ex _ (by simp)]; exact hr.toks
  · rw [ex _ (by simp)]; exact hr.mode_
  · rw [ex _ (by simp)]; exact hr.fault
  · rw [ex _ (by simp)]; exact hr.place
  · rw [ex _ (by simp)]; exact hr.dead
  · intro o; rw [World.frozen?_setCell]; exact hr.frz o
  · intro j u hj; rw [ex _ (by intro e; cases e; exact hr.ne rfl)]; exact hr.tok j u hj
  · intro n' hn'
    cases hn'
    refine ⟨?_, ?_, ?_, ?_, ?_, hE.gne, hE.hne, hE.vars, hE.glen, hE.hlen, ?_⟩
    · rw [ex _ (by simp)]; exact hE.gcell
    · rw [ex _ (by simp)]; exact hE.hcell
    · rw [World.cell?_setCell_same _ _ _ hE.ins]
      show some (Value.int .i64 ((n.E.glob.length : Int) - 1)) = some (Value.int .i64 (((n.E.glob.length - 1 : Nat) : Int)))
      congr 2; omega
    · exact hE.g.keep (by rw [hsz]; exact Nat.le_refl _) (fun b hb3 hl3 o => ex _ (by intro e; cases e; exact hE.gne hb3))
    · exact hE.h.keep (by rw [hsz]; exact Nat.le_refl _) (fun b hb3 hl3 o => ex _ (by intro e; cases e; exact hE.hne hb3))
    · intro k hk
      have hk' : some (n.E.glob.length - 1) = some k := hk
      cases hk'
      show n.E.glob.length - 1 < n.E.glob.length
      omega
  · intro o ho
    rcases ho with rfl | rfl
    · rw [ex _ (by simp)]; exact hr.ext 5 (.inl rfl)
    · rw [World.cell?_setCell_same _ _ _ hE.ins]; rfl
  · exact h.par.setCell _ _
  · intro n' hn'
    cases hn'
    exact ⟨⟨xs, ownsRow_setCell_below hx (a := ⟨wb, 6, none⟩) hl _⟩, ⟨ys, ownsRow_setCell_below hy (a := ⟨wb, 6, none⟩) hl _⟩, hO.apart, fun hf => by cases hf⟩

/-- Behind a body. -/
theorem RD.leave (h : RD wb tb cap T w0 m w s) : RD wb tb cap T w0 (m.map Nm.leave) ((w.setCell ⟨wb, 5, none⟩ (.slice none 0 0)).setCell ⟨wb, 6, none⟩ (.int .i64 (-1))) s := by
  have hr := h.rw
  have hl := h.lt
  have htl := h.tlt
  obtain ⟨v5, h5⟩ := Option.isSome_iff_exists.1 (hr.ext 5 (.inl rfl))
  obtain ⟨v6, h6⟩ := Option.isSome_iff_exists.1 (hr.ext 6 (.inr rfl))
  have ex : ∀ q : Addr, q ≠ ⟨wb, 5, none⟩ → q ≠ ⟨wb, 6, none⟩ → ((w.setCell ⟨wb, 5, none⟩ (.slice none 0 0)).setCell ⟨wb, 6, none⟩ (.int .i64 (-1))).cell? q = w.cell? q := fun q h2 h3 => by rw [World.cell?_setCell_other _ _ _ _ (Ne.symm h3), World.cell?_setCell_other _ _ _ _ (Ne.symm h2)]
  have e5 : ((w.setCell ⟨wb, 5, none⟩ (.slice none 0 0)).setCell ⟨wb, 6, none⟩ (.int .i64 (-1))).cell? ⟨wb, 5, none⟩ = some (.slice none 0 0) := by
    rw [World.cell?_setCell_other _ _ _ _ (by simp)]; exact World.cell?_setCell_same _ _ _ h5
  have e6 : ((w.setCell ⟨wb, 5, none⟩ (.slice none 0 0)).setCell ⟨wb, 6, none⟩ (.int .i64 (-1))).cell? ⟨wb, 6, none⟩ = some (.int .i64 (-1)) :=
    World.cell?_setCell_same _ _ _ (by rw [World.cell?_setCell_other _ _ _ _ (by simp)]; exact h6)
  have hsz : ((w.setCell ⟨wb, 5, none⟩ (.slice none 0 0)).setCell ⟨wb, 6, none⟩ (.int .i64 (-1))).heap.size = w.heap.size := by simp [World.setCell]
  refine ⟨⟨?_, ?_, ?_, ?_, ?_, ?_, ?_, hr.ne, by rw [hsz]; exact hr.tlt, hr.size, ?_, ?_⟩, ?_, ?_, hl, htl⟩
  · rw [ex _ (by simp) (by simp)]; exact hr.toks
  · rw [ex _ (by simp) (by simp), show mdI (m.map Nm.leave) = mdI m from by cases m <;> rfl]; exact hr.mode_
  · rw [ex _ (by simp) (by simp)]; exact hr.fault
  · rw [ex _ (by simp) (by simp)]; exact hr.place
  · rw [ex _ (by simp) (by simp)]; exact hr.dead
  · intro o; rw [World.frozen?_setCell, World.frozen?_setCell]; exact hr.frz o
  · intro j u hj; rw [ex _ (by intro e; cases e; exact hr.ne rfl) (by intro e; cases e; exact hr.ne rfl)]; exact hr.tok j u hj
  · intro n' hn'
    cases m with
    | none => cases hn'
    | some n =>
      cases hn'
      have hE := hr.env n rfl
      refine ⟨?_, e5, e6, ?_, .inl ⟨rfl, rfl⟩, hE.gne, (by simp [Nm.leave, Value.ownBlock]), (fun y hy => (by cases hy)), hE.glen, (by show ([] : List Sy).length ≤ 601; simp), (fun k hk => (by cases hk))⟩
      · rw [ex _ (by simp) (by simp)]; exact hE.gcell
      · exact hE.g.keep (by rw [hsz]; exact Nat.le_refl _) (fun b hb3 hl3 o => ex _ (by intro e; cases e; exact hE.gne hb3) (by intro e; cases e; exact hE.gne hb3))
  · intro o ho
    rcases ho with rfl | rfl
    · rw [e5]; rfl
    · rw [e6]; rfl
  · exact (h.par.setCell _ _).setCell _ _
  · intro n' hn'
    cases m with
    | none => cases hn'
    | some n =>
      cases hn'
      have hO := h.own n rfl
      obtain ⟨xs, hx⟩ := hO.g
      exact ⟨⟨xs, ownsRow_setCell_below (ownsRow_setCell_below hx (a := ⟨wb, 5, none⟩) hl _) (a := ⟨wb, 6, none⟩) hl _⟩, ⟨[], World.ownsRow_nil _ _ _ _⟩, (fun b _ e => (by simp [Nm.leave, Value.ownBlock] at e)), fun hf => by cases hf⟩

end

end Go.Proofs.YtklobognaldjpaaGreat
