/- The reference's walk in memory; its smallest functions. The reference's walk: kinds, what is not done, operators. -/
import Derived.Test.YtklobognaldjpaaGreatCRefTok5
import Derived.Test.YtklobognaldjpaaGreatCNam4
namespace Go.Proofs.YtklobognaldjpaaGreat
open Go.RowKit

/-- A list of what was declared, in memory. -/
def SyAt (w : World) (v : Value) (l : List Sy) : Prop :=
  (v = .slice none 0 0 ∧ l = []) ∨ ∃ b cap, v = .slice (some ⟨b, 0, none⟩) l.length cap ∧ b < w.heap.size ∧ ∀ j y, l[j]? = some y →
    w.cell? ⟨b, j * 6, none⟩ = some (.string y.name) ∧ w.cell? ⟨b, j * 6 + 1, none⟩ = some (.int .i64 y.kind) ∧ w.cell? ⟨b, j * 6 + 3, none⟩ = some (.int .i64 y.args)

theorem SyAt.keep {w w' : World} {v : Value} {l : List Sy} (h : SyAt w v l) (hs : w.heap.size ≤ w'.heap.size) (hb : ∀ b, v.ownBlock = some b → b < w.heap.size → ∀ o, w'.cell? ⟨b, o, none⟩ = w.cell? ⟨b, o, none⟩) : SyAt w' v l := by
  rcases h with h | ⟨b, cap, rfl, hl, hc⟩
  · exact .inl h
  · refine .inr ⟨b, cap, rfl, Nat.lt_of_lt_of_le hl hs, fun j y hj => ?_⟩
    have e := hb b rfl hl
    obtain ⟨c0, c1, c2⟩ := hc j y hj
    exact ⟨by rw [e]; exact c0, by rw [e]; exact c1, by rw [e]; exact c2⟩

theorem SyAt.lt {w : World} {v : Value} {l : List Sy} (h : SyAt w v l) : ∀ b, v.ownBlock = some b → b < w.heap.size := by
  rcases h with ⟨rfl, _⟩ | ⟨b, cap, rfl, hl, hc⟩
  · intro b hb; simp [Value.ownBlock] at hb
  · intro b' hb; simp [Value.ownBlock] at hb; omega

/-- What is known of names, and where it lies. -/
structure Nm where
  E : Env
  gv : Value
  hv : Value

def mdE (m : Option Nm) : Option Env := m.map (·.E)
def mdI : Option Nm → Int
  | none => 0
  | some _ => 1
def insI : Option Nat → Int
  | none => -1
  | some k => k

structure EnvAt (wb : Nat) (w : World) (n : Nm) : Prop where
  gcell : w.cell? ⟨wb, 4, none⟩ = some n.gv
  hcell : w.cell? ⟨wb, 5, none⟩ = some n.hv
  ins : w.cell? ⟨wb, 6, none⟩ = some (.int .i64 (insI n.E.inside))
  g : SyAt w n.gv n.E.glob
  h : SyAt w n.hv n.E.here
  gne : n.gv.ownBlock ≠ some wb
  hne : n.hv.ownBlock ≠ some wb
  vars : ∀ y ∈ n.E.here, y.kind = 0
  glen : n.E.glob.length ≤ 601
  hlen : n.E.here.length ≤ 601
  insOk : ∀ k, n.E.inside = some k → k < n.E.glob.length

theorem EnvAt.keep {wb : Nat} {w w' : World} {n : Nm} (h : EnvAt wb w n) (hs : w.heap.size ≤ w'.heap.size)
    (h4 : w'.cell? ⟨wb, 4, none⟩ = w.cell? ⟨wb, 4, none⟩) (h5 : w'.cell? ⟨wb, 5, none⟩ = w.cell? ⟨wb, 5, none⟩) (h6 : w'.cell? ⟨wb, 6, none⟩ = w.cell? ⟨wb, 6, none⟩)
    (hb : ∀ b, (n.gv.ownBlock = some b ∨ n.hv.ownBlock = some b) → b ≠ wb → b < w.heap.size → ∀ o, w'.cell? ⟨b, o, none⟩ = w.cell? ⟨b, o, none⟩) : EnvAt wb w' n :=
  ⟨by rw [h4]; exact h.gcell, by rw [h5]; exact h.hcell, by rw [h6]; exact h.ins,
   h.g.keep hs (fun b e hl => hb b (.inl e) (fun e2 => h.gne (e2 ▸ e)) hl), h.h.keep hs (fun b e hl => hb b (.inr e) (fun e2 => h.hne (e2 ▸ e)) hl), h.gne, h.hne, h.vars, h.glen, h.hlen, h.insOk⟩

/-- The walk in memory: its tokens, what it looks at, what is wrong and where. -/
structure RW (wb tb cap : Nat) (T : List Tok) (m : Option Nm) (w : World) (s : PS) : Prop where
  toks : w.cell? ⟨wb, 0, none⟩ = some (.slice (some ⟨tb, 0, none⟩) T.length cap)
  mode_ : w.cell? ⟨wb, 1, none⟩ = some (.int .i64 (mdI m))
  fault : w.cell? ⟨wb, 2, none⟩ = some (.int .i64 s.code)
  place : w.cell? ⟨wb, 3, none⟩ = some (.int .i64 s.at_)
  dead : w.cell? ⟨wb, 10, none⟩ = some (.bool false)
  frz : ∀ o, w.frozen? ⟨wb, o, none⟩ = false
  tok : ∀ j u, (toksRC T)[j]? = some u → w.cell? ⟨tb, j, none⟩ = some u
  ne : tb ≠ wb
  tlt : tb < w.heap.size
  size : T.length ≤ 601
  env : ∀ n, m = some n → EnvAt wb w n
  ext : ∀ o, o = 5 ∨ o = 6 → (w.cell? ⟨wb, o, none⟩).isSome = true

theorem RW.lt {wb tb cap : Nat} {T : List Tok} {m : Option Nm} {w : World} {s : PS} (h : RW wb tb cap T m w s) : wb < w.heap.size := lt_of_cell h.toks

theorem RW.below {wb tb cap : Nat} {T : List Tok} {m : Option Nm} {w w' : World} {s : PS} (h : RW wb tb cap T m w s) (hb : Below w.heap.size w w') : RW wb tb cap T m w' s := by
  have hl := h.lt
  have e : ∀ o, w'.cell? ⟨wb, o, none⟩ = w.cell? ⟨wb, o, none⟩ := fun o => hb.cell (p := ⟨wb, o, none⟩) hl
  exact ⟨by rw [e]; exact h.toks, by rw [e]; exact h.mode_, by rw [e]; exact h.fault, by rw [e]; exact h.place, by rw [e]; exact h.dead,
    fun o => by rw [hb.frozen (p := ⟨wb, o, none⟩) hl]; exact h.frz o,
    fun j u hj => by rw [hb.cell (p := ⟨tb, j, none⟩) h.tlt]; exact h.tok j u hj, h.ne, Nat.lt_of_lt_of_le h.tlt hb.size, h.size,
    fun n hn => (h.env n hn).keep hb.size (e 4) (e 5) (e 6) (fun b _ _ hl o => hb.cell (p := ⟨b, o, none⟩) hl), fun o ho => by rw [e]; exact h.ext o ho⟩

theorem RW.alloc {wb tb cap : Nat} {T : List Tok} {m : Option Nm} {w : World} {s : PS} (h : RW wb tb cap T m w s) (o : Obj) : RW wb tb cap T m (w.alloc o) s := h.below ((Below.refl _ _).alloc (Nat.le_refl _) _)

/-- Another row grew, one that began after the walk had what it knows. -/
theorem RW.grown {wb tb cap : Nat} {T : List Tok} {m : Option Nm} {w0 w w' : World} {s0 s : PS} {v : Value} (h0 : RW wb tb cap T m w0 s0) (h : RW wb tb cap T m w s) (hg : w.grownBy w' v.ownBlock) (hv : ∀ k, v.ownBlock = some k → w0.heap.size ≤ k) : RW wb tb cap T m w' s := by
  have hl := h.lt
  have hb : w'.heap[wb]? = w.heap[wb]? := hg.block wb hl (fun e => by have := hv wb e.symm; have := h0.lt; omega)
  have hb2 : w'.heap[tb]? = w.heap[tb]? := hg.block tb h.tlt (fun e => by have := hv tb e.symm; have := h0.tlt; omega)
  have e : ∀ o, w'.cell? ⟨wb, o, none⟩ = w.cell? ⟨wb, o, none⟩ := fun o => World.cell?_of_block (w := w) hb
  exact ⟨by rw [e]; exact h.toks, by rw [e]; exact h.mode_, by rw [e]; exact h.fault, by rw [e]; exact h.place, by rw [e]; exact h.dead,
    fun o => by rw [World.frozen?_of_block (w := w) hb]; exact h.frz o,
    fun j u hj => by rw [World.cell?_of_block (w := w) hb2]; exact h.tok j u hj, h.ne, Nat.lt_of_lt_of_le h.tlt hg.size, h.size,
    fun n hn => (h.env n hn).keep hg.size (e 4) (e 5) (e 6) (fun b hb3 _ hl o => World.cell?_of_block (w := w) (hg.block b hl (fun e => by
      have h1 := hv b e.symm
      have h2 := h0.env n hn
      rcases hb3 with h3 | h3
      · have := h2.g.lt b h3; omega
      · have := h2.h.lt b h3; omega))), fun o ho => by rw [e]; exact h.ext o ho⟩

theorem toksRC_get : ∀ (T : List Tok) (i : Nat) (t : Tok), T[i]? = some t → ∀ j, j < 4 → (toksRC T)[i * 4 + j]? = (tokRC t)[j]?
  | [], i, t, h, _, _ => by simp at h
  | a :: T, 0, t, h, j, hj => by
    simp at h; subst h
    have e : toksRC (a :: T) = tokRC a ++ toksRC T := rfl
    have e2 : (tokRC a).length = 4 := rfl
    rw [e, List.getElem?_append_left (by omega)]; simp
  | a :: T, i + 1, t, h, j, hj => by
    have e : toksRC (a :: T) = tokRC a ++ toksRC T := rfl
    have e2 : (tokRC a).length = 4 := rfl
    rw [e, List.getElem?_append_right (by omega), e2]
    have := toksRC_get T i t (by simpa using h) j hj
    rw [← this]; congr 1; omega

theorem RW.curCells {wb tb cap : Nat} {T : List Tok} {m : Option Nm} {w : World} {s : PS} (h : RW wb tb cap T m w s) (hg : Good T s) :
    w.cell? ⟨tb, s.next * 4, none⟩ = some (.int .i64 (cur T s).kind.r) ∧ w.cell? ⟨tb, s.next * 4 + 1, none⟩ = some (.int .i64 (cur T s).val) ∧
    w.cell? ⟨tb, s.next * 4 + 2, none⟩ = some (.int .i64 (cur T s).pos) ∧ w.cell? ⟨tb, s.next * 4 + 3, none⟩ = some (.string (cur T s).text) := by
  have e : T[s.next]? = some (cur T s) := by
    unfold cur; rw [List.getD_eq_getElem?_getD, List.getElem?_eq_getElem hg]; rfl
  have g := toksRC_get T s.next (cur T s) e
  exact ⟨h.tok _ _ ((g 0 (by omega)).trans rfl), h.tok _ _ ((g 1 (by omega)).trans rfl), h.tok _ _ ((g 2 (by omega)).trans rfl), h.tok _ _ ((g 3 (by omega)).trans rfl)⟩

theorem RW.setFault {wb tb cap : Nat} {T : List Tok} {m : Option Nm} {w : World} {s : PS} (h : RW wb tb cap T m w s) (c p n : Nat) : RW wb tb cap T m ((w.setCell ⟨wb, 2, none⟩ (.int .i64 c)).setCell ⟨wb, 3, none⟩ (.int .i64 p)) ⟨c, p, n⟩ := by
  have hne := h.ne
  have ex : ∀ q : Addr, q ≠ ⟨wb, 2, none⟩ → q ≠ ⟨wb, 3, none⟩ → ((w.setCell ⟨wb, 2, none⟩ (.int .i64 c)).setCell ⟨wb, 3, none⟩ (.int .i64 p)).cell? q = w.cell? q := fun q h2 h3 => by rw [World.cell?_setCell_other _ _ _ _ (Ne.symm h3), World.cell?_setCell_other _ _ _ _ (Ne.symm h2)]
  refine ⟨?_, ?_, ?_, ?_, ?_, ?_, ?_, hne, by simp [World.setCell]; exact h.tlt, h.size, fun n hn => (h.env n hn).keep (by simp [World.setCell]) (ex _ (by simp) (by simp)) (ex _ (by simp) (by simp)) (ex _ (by simp) (by simp)) (fun b _ hb _ o => ex _ (by intro e; cases e; exact hb rfl) (by intro e; cases e; exact hb rfl)), fun o ho => by rcases ho with rfl | rfl <;> (rw [ex _ (by simp) (by simp)]; exact h.ext _ (by simp))⟩
  · rw [World.cell?_setCell_other _ _ _ _ (by simp), World.cell?_setCell_other _ _ _ _ (by simp)]; exact h.toks
  · rw [World.cell?_setCell_other _ _ _ _ (by simp), World.cell?_setCell_other _ _ _ _ (by simp)]; exact h.mode_
  · rw [World.cell?_setCell_other _ _ _ _ (by simp)]; exact World.cell?_setCell_same _ _ _ h.fault
  · exact World.cell?_setCell_same _ _ _ (by rw [World.cell?_setCell_other _ _ _ _ (by simp)]; exact h.place)
  · rw [World.cell?_setCell_other _ _ _ _ (by simp), World.cell?_setCell_other _ _ _ _ (by simp)]; exact h.dead
  · intro o; rw [World.frozen?_setCell, World.frozen?_setCell]; exact h.frz o
  · intro j u hj
    rw [World.cell?_setCell_other _ _ _ _ (by intro e; cases e; exact hne rfl), World.cell?_setCell_other _ _ _ _ (by intro e; cases e; exact hne rfl)]; exact h.tok j u hj

/-- The place in the text is no part of what lies in memory. -/
theorem RW.at {wb tb cap : Nat} {T : List Tok} {m : Option Nm} {w : World} {s : PS} (h : RW wb tb cap T m w s) (n : Nat) : RW wb tb cap T m w { s with next := n } :=
  ⟨h.toks, h.mode_, h.fault, h.place, h.dead, h.frz, h.tok, h.ne, h.tlt, h.size, h.env, h.ext⟩

/-- The place at which one is, where nothing is wrong. -/
def At (s : PS) (i : Int) : Prop := s.code = 0 → i = s.next

/-- Who has this text is a sign or a keyword. -/
def Fx (T : List Tok) (f : ByteArray) : Prop := f.toList ≠ [] ∧ ∀ t ∈ T, (t.text.toList == f.toList) = true → t.kind = .sign ∨ t.kind = .keyword

section
variable {wb tb cap : Nat} {T : List Tok} {m : Option Nm} {w : World} {s : PS}

set_option maxHeartbeats 400000 in
theorem refEnd_any (h : RW wb tb cap T m w s) (hg : Good T s) :
    Calls Tryz.prog 126 #[.pointer (some ⟨wb, 0, none⟩)] w fun e w' => e = .returned (.int .i64 ((T.length - 1 : Nat) : Int)) ∧ w' = w := by
  have ht := h.toks
  have hsz := h.size
  have hg' : s.next < T.length := hg
  have eN : (((T.length - 1 : Nat)) : Int) = (T.length : Int) - 1 := by omega
  rw [eN]
  clear eN
  go_enter Tryz.func126, Tryz.ntmps126
  go_wp2
  go_ret
  exact ⟨rfl, rfl⟩

set_option maxRecDepth 100000 in
set_option maxHeartbeats 400000 in
theorem wrong_any (h : RW wb tb cap T m w s) (hg : Good T s) (c : Nat) (i : Int) (hi : At s i) :
    Calls Tryz.prog 98 #[.pointer (some ⟨wb, 0, none⟩), .int .i64 i, .int .i64 c] w fun e w' => e = .returned (.int .i64 ((fails T c s).next : Int)) ∧ RW wb tb cap T m w' (fails T c s) ∧ Par wb w w' := by
  have hf := h.fault
  have hp := h.place
  have ht := h.toks
  have hsz := h.size
  have hg' : (s.next : Int) < T.length := by unfold Good at hg; omega
  have h2 := h.frz 2
  have h3 := h.frz 3
  have hne := h.ne
  obtain ⟨c0, c1, c2, c3⟩ := h.curCells hg
  by_cases hz : s.code = 0
  · obtain rfl := hi hz
    have e : fails T c s = ⟨c, (cur T s).pos, T.length - 1⟩ := by simp [fails, hz]
    rw [e]
    rw [hz] at hf
    have hS := fun n => h.setFault c (cur T s).pos n
    have hE := refEnd_any (hS (T.length - 1)) (s := ⟨c, (cur T s).pos, T.length - 1⟩) (by show T.length - 1 < T.length; omega)
    clear e c0 c1 c3
    go_enter Tryz.func98, Tryz.ntmps98
    go_wp2_with (go_at_call 126; refine hE.mono ?_; rintro e w9 ⟨rfl, h9⟩)
    go_ret
    exact ⟨rfl, hS _, ((Par.refl _ _).setCell _ _).setCell _ _⟩
  · have e : fails T c s = ⟨s.code, s.at_, T.length - 1⟩ := by simp [fails, hz]
    rw [e]
    have hz' : ((s.code : Int) == 0) = false := by simp; omega
    have hE := refEnd_any h hg
    clear e c0 c1 c2 c3 hz
    go_enter Tryz.func98, Tryz.ntmps98
    go_wp2_with (go_at_call 126; refine hE.mono ?_; rintro e w9 ⟨rfl, h9⟩)
    go_ret
    exact ⟨rfl, h.at _, Par.refl _ _⟩

theorem r_sign (k : TK) : (k.r == 3) = decide (k = .sign) := by cases k <;> rfl
theorem r_kw (k : TK) : (k.r == 0) = decide (k = .keyword) := by cases k <;> rfl

theorem cur_mem (hg : Good T s) : cur T s ∈ T := by
  unfold cur; rw [List.getD_eq_getElem?_getD, List.getElem?_eq_getElem hg]; exact List.getElem_mem hg

set_option maxRecDepth 100000 in
set_option maxHeartbeats 1000000 in
theorem is_any (hT : Toks T) (h : RW wb tb cap T m w s) (hg : Good T s) (hs : Stk T s) (i : Int) (hi : At s i) (f : ByteArray) (hf : Fx T f) :
    Calls Tryz.prog 94 #[.pointer (some ⟨wb, 0, none⟩), .int .i64 i, .string f] w fun e w' => e = .returned (.bool (sees T f s)) ∧ w' = w := by
  have hfa := h.fault
  have ht := h.toks
  have hsz := h.size
  have hg' : (s.next : Int) < T.length := by unfold Good at hg; omega
  obtain ⟨c0, c1, c2, c3⟩ := h.curCells hg
  by_cases hz : s.code = 0
  · obtain rfl := hi hz
    rw [hz] at hfa
    have hk3 := r_sign (cur T s).kind
    have hk0 := r_kw (cur T s).kind
    cases hsee : sees T f s with
    | true =>
      have hk := hf.2 _ (cur_mem hg) hsee
      have htx : ((cur T s).text.toList == f.toList) = true := hsee
      clear c1 c2 hsee hz
      rcases hk with hk | hk
      · rw [hk] at c0
        clear hk3 hk0 hk
        simp only [TK.r] at c0
        go_enter Tryz.func94, Tryz.ntmps94
        go_wp2
        go_ret
        exact ⟨rfl, rfl⟩
      · rw [hk] at c0
        clear hk3 hk0 hk
        simp only [TK.r] at c0
        go_enter Tryz.func94, Tryz.ntmps94
        go_wp2
        go_ret
        exact ⟨rfl, rfl⟩
    | false =>
      have htx : ((cur T s).text.toList == f.toList) = false := hsee
      clear c1 c2 hsee hz
      generalize (cur T s).kind.r = kr at *
      clear hk3 hk0
      cases h3 : (kr == 3) with
      | true =>
        go_enter Tryz.func94, Tryz.ntmps94
        go_wp2
        go_ret
        exact ⟨rfl, rfl⟩
      | false =>
        cases h0 : (kr == 0) with
        | true =>
          go_enter Tryz.func94, Tryz.ntmps94
          go_wp2
          go_ret
          exact ⟨rfl, rfl⟩
        | false =>
          go_enter Tryz.func94, Tryz.ntmps94
          go_wp2
          go_ret
          exact ⟨rfl, rfl⟩
  · have hz' : ((s.code : Int) == 0) = false := by simp; omega
    rw [sees_stuck hT hs hz hf.1]
    clear c0 c1 c2 c3 hz
    go_enter Tryz.func94, Tryz.ntmps94
    go_wp2
    go_ret
    exact ⟨rfl, rfl⟩

set_option maxRecDepth 100000 in
set_option maxHeartbeats 1000000 in
theorem need_any (hT : Toks T) (h : RW wb tb cap T m w s) (hg : Good T s) (hs : Stk T s) (i : Int) (hi : At s i) (f : ByteArray) (hf : Fx T f) :
    Calls Tryz.prog 123 #[.pointer (some ⟨wb, 0, none⟩), .int .i64 i, .string f] w fun e w' => e = .returned (.int .i64 ((want T f s).next : Int)) ∧ RW wb tb cap T m w' (want T f s) ∧ Par wb w w' := by
  have hI := is_any hT h hg hs i hi f hf
  have hsz := h.size
  have hg' : s.next < T.length := hg
  cases hsee : sees T f s with
  | true =>
    rw [hsee] at hI
    obtain rfl := hi (code_of_sees hT hs hf.1 hsee)
    have e : want T f s = adv s := by simp [want, hsee]
    rw [e]
    have en : (((adv s).next : Nat) : Int) = (s.next : Int) + 1 := by show ((s.next + 1 : Nat) : Int) = _; omega
    rw [en]
    clear e en hsee
    go_enter Tryz.func123, Tryz.ntmps123
    go_wp2_with (go_at_call 94; refine hI.mono ?_; rintro e w1 ⟨rfl, h1⟩; obtain rfl := h1.symm; clear h1)
    go_ret
    exact ⟨rfl, h.at _, Par.refl _ _⟩
  | false =>
    rw [hsee] at hI
    have e : want T f s = fails T 4 s := by simp [want, hsee]
    rw [e]
    clear e hsee
    go_enter Tryz.func123, Tryz.ntmps123
    go_wp2_with (first
      | (go_at_call 94; refine hI.mono ?_; rintro e w1 ⟨rfl, h1⟩; obtain rfl := h1.symm; clear h1)
      | (go_at_call 98; refine (wrong_any h hg 4 i hi).mono ?_; rintro e w2 ⟨rfl, hP2, hk2⟩))
    go_ret
    exact ⟨rfl, hP2, hk2⟩

end

end Go.Proofs.YtklobognaldjpaaGreat

namespace Go.Proofs.YtklobognaldjpaaGreat
open Go.RowKit

section
variable {wb tb cap : Nat} {T : List Tok} {m : Option Nm} {w : World} {s : PS}

theorem mdI_ne (m : Option Nm) : (mdI m == 2) = false := by cases m <;> rfl

/-- A token of a kind must stand there. -/
def ofK (T : List Tok) (k : TK) (s : PS) : PS := if kindIs T k s then adv s else fails T 4 s

theorem r_inj (a b : TK) : (a.r != b.r) = !decide (a = b) := by cases a <;> cases b <;> rfl

set_option maxRecDepth 100000 in
set_option maxHeartbeats 1000000 in
theorem of_any (hT : Toks T) (h : RW wb tb cap T m w s) (hg : Good T s) (hs : Stk T s) (i : Int) (hi : At s i) (k : TK) (kr : Int) (hkr : k.r = kr) (hk : k ≠ .over ∨ s.code = 0) :
    Calls Tryz.prog 124 #[.pointer (some ⟨wb, 0, none⟩), .int .i64 i, .int .i64 kr] w fun e w' => e = .returned (.int .i64 ((ofK T k s).next : Int)) ∧ RW wb tb cap T m w' (ofK T k s) ∧ Par wb w w' := by
  have hfa := h.fault
  have ht := h.toks
  have hsz := h.size
  have hg' : (s.next : Int) < T.length := by unfold Good at hg; omega
  obtain ⟨c0, c1, c2, c3⟩ := h.curCells hg
  have hW := wrong_any h hg 4 i hi
  cases hsee : kindIs T k s with
  | true =>
    have hc : s.code = 0 := by
      rcases hk with hk | hk
      · exact code_of_kind hT hs hk hsee
      · exact hk
    obtain rfl := hi hc
    have hkk : (cur T s).kind.r = kr := by have : (cur T s).kind = k := by simpa [kindIs] using hsee
                                           rw [this]; exact hkr
    have e : ofK T k s = adv s := by simp [ofK, hsee]
    rw [e]
    have en : (((adv s).next : Nat) : Int) = (s.next : Int) + 1 := by show ((s.next + 1 : Nat) : Int) = _; omega
    rw [en]
    rw [hkk] at c0
    rw [hc] at hfa
    clear e en hsee c1 c2 c3 hkk hW hkr hk hc
    go_enter Tryz.func124, Tryz.ntmps124
    go_wp2
    go_ret
    exact ⟨rfl, h.at _, Par.refl _ _⟩
  | false =>
    have e : ofK T k s = fails T 4 s := by simp [ofK, hsee]
    rw [e]
    have hne : ((cur T s).kind.r != kr) = true := by rw [← hkr, r_inj]; simpa [kindIs] using hsee
    generalize (cur T s).kind.r = ck at *
    clear e hsee c1 c2 c3 hkr hk
    by_cases hz : s.code = 0
    · obtain rfl := hi hz
      rw [hz] at hfa
      clear hz
      go_enter Tryz.func124, Tryz.ntmps124
      go_wp2_with (go_at_call 98; refine hW.mono ?_; rintro e w2 ⟨rfl, hP2, hk2⟩)
      go_ret
      exact ⟨rfl, hP2, hk2⟩
    · have hz' : ((s.code : Int) != 0) = true := by simp; omega
      clear hz c0
      go_enter Tryz.func124, Tryz.ntmps124
      go_wp2_with (go_at_call 98; refine hW.mono ?_; rintro e w2 ⟨rfl, hP2, hk2⟩)
      go_ret
      exact ⟨rfl, hP2, hk2⟩

set_option maxRecDepth 100000 in
set_option maxHeartbeats 1000000 in
theorem lives_any (h : RW wb tb cap T m w s) (live : Bool) :
    Calls Tryz.prog 178 #[.pointer (some ⟨wb, 0, none⟩), .bool live] w fun e w' => e = .returned (.bool false) ∧ w' = w := by
  have hmo := h.mode_
  have hde := h.dead
  have hm := mdI_ne m
  cases live with
  | true =>
    go_enter Tryz.func178, Tryz.ntmps178
    go_wp2
    go_ret
    exact ⟨rfl, rfl⟩
  | false =>
    go_enter Tryz.func178, Tryz.ntmps178
    go_wp2
    go_ret
    exact ⟨rfl, rfl⟩

set_option maxRecDepth 100000 in
set_option maxHeartbeats 1000000 in
theorem unit_any (h : RW wb tb cap T m w s) (live : Bool) :
    Calls Tryz.prog 176 #[.pointer (some ⟨wb, 0, none⟩), .bool live] w fun e w' => e = .returned (.bool false) ∧ w' = w := by
  have hL := lives_any h live
  go_enter Tryz.func176, Tryz.ntmps176
  go_wp2_with (go_at_call 178; refine hL.mono ?_; rintro e w1 ⟨rfl, h1⟩; obtain rfl := h1.symm; clear h1)
  go_ret
  exact ⟨rfl, rfl⟩

set_option maxHeartbeats 400000 in
theorem truth_any (b : Bool) (w : World) : Calls Tryz.prog 76 #[.bool b] w fun e w' => ∃ v : Int, e = .returned (.int .i64 v) ∧ w' = w := by
  cases b with
  | true =>
    go_enter Tryz.func76, Tryz.ntmps76
    go_wp2
    go_ret
    exact ⟨_, rfl, rfl⟩
  | false =>
    go_enter Tryz.func76, Tryz.ntmps76
    go_wp2
    go_ret
    exact ⟨_, rfl, rfl⟩

set_option maxHeartbeats 400000 in
theorem refWrap_any (n : Int) (w : World) : Calls Tryz.prog 222 #[.int .i64 n] w fun e w' => ∃ v : Int, e = .returned (.int .i64 v) ∧ w' = w := by
  go_enter Tryz.func222, Tryz.ntmps222
  go_wp2
  all_goals go_ret
  all_goals exact ⟨_, rfl, rfl⟩

/-- The first of some signs that stands there, or nothing. -/
def opAt (T : List Tok) (fs : List ByteArray) (s : PS) : ByteArray := (fs.find? fun f => sees T f s).getD ⟨#[]⟩

set_option maxRecDepth 100000 in
set_option maxHeartbeats 1000000 in
theorem operator_any (hT : Toks T) (h : RW wb tb cap T m w s) (hg : Good T s) (hs : Stk T s) (i : Int) (hi : At s i) (b c : Nat) (fs : List ByteArray) (hbig : fs.length ≤ 600) (hc : StrsAt w b fs) (hfs : ∀ f ∈ fs, Fx T f) :
    Calls Tryz.prog 217 #[.pointer (some ⟨wb, 0, none⟩), .int .i64 i, .slice (some ⟨b, 0, none⟩) fs.length c] w fun e w' => e = .returned (.string (opAt T fs s)) ∧ w' = w := by
  go_enter Tryz.func217, Tryz.ntmps217
  go_wp2
  go_loop [7, 8] (fun ii _ => ∃ k : Nat, k ≤ fs.length ∧ ii = .int .i64 k ∧ ∀ f ∈ fs.take k, sees T f s = false) (fun ii _ => fs.length - (intOf ii).toNat)
  case atStart => exact ⟨0, Nat.zero_le _, rfl, fun f hf => by simp at hf⟩
  case round =>
    obtain ⟨k, hk, rfl, hne⟩ := hrel
    have HN : Hid (∀ f ∈ fs.take k, sees T f s = false) := hne
    clear hne
    by_cases hlt : k < fs.length
    · have hcell : w.cell? ⟨b, k, none⟩ = some (.string fs[k]) := hc k fs[k] (List.getElem?_eq_getElem hlt)
      have HT : Hid (fs.take (k + 1) = fs.take k ++ [fs[k]]) := List.take_succ_eq_append_getElem hlt
      have hI := is_any hT h hg hs i hi fs[k] (hfs _ (List.getElem_mem hlt))
      have HD : Hid (fs = fs.take k ++ fs[k] :: fs.drop (k + 1)) := by show _ = _; rw [List.getElem_cons_drop, List.take_append_drop]
      clear hc
      generalize fs[k] = fk at *
      cases he : sees T fk s with
      | true =>
        rw [he] at hI
        have HB : Hid (opAt T fs s = fk) := by
          show _ = _
          unfold opAt
          rw [HD.out, List.find?_append, List.find?_eq_none.2 (fun f hf => by rw [HN.out f hf]; simp)]
          simp [he]
        clear he
        go_wp2_with (go_at_call 94; refine hI.mono ?_; rintro e w1 ⟨rfl, h1⟩; obtain rfl := h1.symm; clear h1)
        go_ret
        exact ⟨by rw [HB.out]; rfl, rfl⟩
      | false =>
        rw [he] at hI
        have HF : Hid (sees T fk s = false) := he
        clear he
        go_wp2_with (go_at_call 94; refine hI.mono ?_; rintro e w1 ⟨rfl, h1⟩; obtain rfl := h1.symm; clear h1)
        go_round
        case rel => exact ⟨k + 1, by omega, by go_num, fun f hf => by
          rw [HT.out, List.mem_append] at hf
          rcases hf with hf | hf
          · exact HN.out f hf
          · simp at hf; subst hf; exact HF.out⟩
        case measure => simp [intOf]; omega
    · have HB : Hid (opAt T fs s = ⟨#[]⟩) := by
        show _ = _
        unfold opAt
        rw [List.find?_eq_none.2 (fun f hf => by rw [HN.out f (by rw [List.take_of_length_le (by omega)]; exact hf)]; simp)]
        rfl
      go_wp2
      go_ret
      exact ⟨by rw [HB.out]; rfl, rfl⟩

end

end Go.Proofs.YtklobognaldjpaaGreat
