/- Plain: no word of the code is great. -/
import Derived.Test.YtklobognaldjpaaGreatCSz1
import Derived.Test.YtklobognaldjpaaGreatCWh2
import Derived.Test.YtklobognaldjpaaGreatCSim9
namespace Go.Proofs.YtklobognaldjpaaGreat
def LeK (l : List Nat) : Prop := ∀ x ∈ l, x <= 2147483647
theorem LeK.append {a b : List Nat} (ha : LeK a) (hb : LeK b) : LeK (a ++ b) := fun x hx => by
 rcases List.mem_append.1 hx with h | h
 ·exact ha x h
 ·exact hb x h
theorem LeK.nil : LeK [] := fun x hx => by cases hx
theorem LeK.cons {a : Nat} {b : List Nat} (ha : a <= 2147483647) (hb : LeK b) : LeK (a :: b) := fun x hx => by
 rcases List.mem_cons.1 hx with h | h
 ·rw [h]; exact ha
 ·exact hb x h
theorem LeK.one {a : Nat} (ha : a <= 2147483647) : LeK [a] := .cons ha .nil
theorem LeK.two {a b : Nat} (ha : a <= 2147483647) (hb : b <= 2147483647) : LeK [a, b] := .cons ha (.one hb)
theorem LeK.three {a b c : Nat} (ha : a <= 2147483647) (hb : b <= 2147483647) (hc : c <= 2147483647) : LeK [a, b, c] := .cons ha (.two hb hc)
structure EB (E : CE) : Prop where
 g1 : ∀ n, (E.g n).1 <= 2147483647
 g2 : ∀ n, (E.g n).2 <= 2147483647
 l : ∀ n k, E.l n = some k -> k <= 2147483647
 n : E.n <= 2147483647
theorem bw_get {E : CE} (h : EB E) (n : ByteArray) : LeK (E.get n) := by
 unfold CE.get
 split
 ·rename_i a ha; exact .two (by omega) (h.l n a ha)
 ·exact .two (by omega) (h.g1 n)
theorem bw_set {E : CE} (h : EB E) (n : ByteArray) : LeK (E.set n) := by
 unfold CE.set
 split
 ·rename_i a ha; exact .two (by omega) (h.l n a ha)
 ·split
  ·exact .two (by omega) h.n
  ·exact .two (by omega) (h.g1 n)
theorem opNum_le (op : ByteArray) : opNum op <= 2147483647 := by have := op_range op; omega
theorem unNum_le (op : ByteArray) : unNum op <= 2147483647 := by unfold unNum; split <;> omega
mutual
theorem bw_ex {E : CE} (h : EB E) : ∀ (e : Ex) (p : Nat), WhEx e -> p + (cEx E p e).length <= 1000000 -> LeK (cEx E p e)
 | .nil, p, hw, _ => by rw [WhEx] at hw; exact hw.elim
 | .num v, p, hw, _ => by rw [WhEx] at hw; rw [cEx]; exact .two (by omega) hw
 | .var n _, p, _, _ => by rw [cEx]; exact bw_get h n
 | .elem n _ i, p, hw, hl => by
  rw [WhEx] at hw
  rw [cEx] at hl ⊢
  simp only [List.length_append, List.length_cons, List.length_nil] at hl
  exact ((bw_ex h i p hw.2 (by omega)).append (.three (by omega) (h.g1 n) (h.g2 n))).append (.one (by omega))
 | .call n _ args, p, hw, hl => by
  rw [WhEx] at hw
  rw [cEx] at hl ⊢
  simp only [List.length_append, List.length_cons, List.length_nil] at hl
  exact (bw_exs h args p hw.2.2 (by omega)).append (.three (by omega) (h.g1 n) (by have := hw.2.1; omega))
 | .bin op l r, p, hw, hl => by
  rw [WhEx] at hw
  rw [cEx] at hl ⊢
  split at hl
  ·rename_i h1
   rw [if_pos h1]
   simp only [List.length_append, List.length_cons, List.length_nil] at hl
   exact (((((bw_ex h l p hw.1 (by omega)).append (.two (by omega) (by omega))).append (bw_ex h r _ hw.2 (by omega))).append (.one (by omega))).append (.two (by omega) (by omega))).append (.two (by omega) (by omega))
  ·rename_i h1
   rw [if_neg h1]
   split at hl
   ·rename_i h2
    rw [if_pos h2]
    simp only [List.length_append, List.length_cons, List.length_nil] at hl
    exact (((((bw_ex h l p hw.1 (by omega)).append (.two (by omega) (by omega))).append (.two (by omega) (by omega))).append (.two (by omega) (by omega))).append (bw_ex h r _ hw.2 (by omega))).append (.one (by omega))
   ·rename_i h2
    rw [if_neg h2]
    simp only [List.length_append, List.length_cons, List.length_nil] at hl
    exact ((bw_ex h l p hw.1 (by omega)).append (bw_ex h r _ hw.2 (by omega))).append (.one (opNum_le op))
 | .un op e, p, hw, hl => by
  rw [WhEx] at hw
  rw [cEx] at hl ⊢
  simp only [List.length_append, List.length_cons, List.length_nil] at hl
  exact (bw_ex h e p hw (by omega)).append (.one (unNum_le op))
theorem bw_exs {E : CE} (h : EB E) : ∀ (l : List Ex) (p : Nat), WhExs l -> p + (cExs E p l).length <= 1000000 -> LeK (cExs E p l)
 | [], p, _, _ => by rw [cExs]; exact .nil
 | a :: l, p, hw, hl => by
  rw [WhExs] at hw
  rw [cExs] at hl ⊢
  rw [List.length_append] at hl
  exact (bw_ex h a p hw.1 (by omega)).append (bw_exs h l _ hw.2 (by omega))
end
mutual
theorem bw_st {E : CE} (h : EB E) : ∀ (s : St) (p : Nat), WhSt s -> p + (cSt E p s).length <= 1000000 -> LeK (cSt E p s)
 | .nil, p, hw, _ => by rw [WhSt] at hw; exact hw.elim
 | .assign n _ e, p, hw, hl => by
  rw [WhSt] at hw
  rw [cSt] at hl ⊢
  simp only [List.length_append, List.length_cons, List.length_nil] at hl
  exact (LeK.append (.one (by omega)) (bw_ex h e _ hw.2 (by omega))).append (bw_set h n)
 | .put n _ i e, p, hw, hl => by
  rw [WhSt] at hw
  rw [cSt] at hl ⊢
  simp only [List.length_append, List.length_cons, List.length_nil] at hl
  exact ((LeK.append (.one (by omega)) ((bw_ex h i _ hw.2.1 (by omega)).append (.three (by omega) (h.g1 n) (h.g2 n)))).append (bw_ex h e _ hw.2.2 (by omega))).append (.one (by omega))
 | .proc n _ args, p, hw, hl => by
  rw [WhSt] at hw
  rw [cSt] at hl ⊢
  simp only [List.length_append, List.length_cons, List.length_nil] at hl
  exact LeK.append (.one (by omega)) ((bw_exs h args _ hw.2.2 (by omega)).append (.three (by omega) (h.g1 n) (by have := hw.2.1; omega)))
 | .ite c t f, p, hw, hl => by
  rw [WhSt] at hw
  rw [cSt] at hl ⊢
  split at hl
  ·rename_i h1
   rw [if_pos h1]
   simp only [List.length_append, List.length_cons, List.length_nil] at hl
   exact LeK.append (.one (by omega)) (((bw_ex h c _ hw.1 (by omega)).append (.two (by omega) (by omega))).append (bw_st h t _ hw.2.1 (by omega)))
  ·rename_i h1
   rw [if_neg h1]
   simp only [List.length_append, List.length_cons, List.length_nil] at hl
   exact LeK.append (.one (by omega)) (((((bw_ex h c _ hw.1 (by omega)).append (.two (by omega) (by omega))).append (bw_st h t _ hw.2.1 (by omega))).append (.two (by omega) (by omega))).append (bw_st h f _ (hw.2.2.resolve_left (by simpa using h1)) (by omega)))
 | .loop c b, p, hw, hl => by
  rw [WhSt] at hw
  rw [cSt] at hl ⊢
  simp only [List.length_append, List.length_cons, List.length_nil] at hl
  exact LeK.append (.one (by omega)) ((((bw_ex h c _ hw.1 (by omega)).append (.two (by omega) (by omega))).append (bw_st h b _ hw.2 (by omega))).append (.two (by omega) (by omega)))
 | .block l, p, hw, hl => by
  rw [WhSt] at hw
  rw [cSt] at hl ⊢
  exact bw_sts h l p hw.2 hl
 | .write e, p, hw, hl => by
  rw [WhSt] at hw
  rw [cSt] at hl ⊢
  simp only [List.length_append, List.length_cons, List.length_nil] at hl
  exact (LeK.append (.one (by omega)) (bw_ex h e _ hw (by omega))).append (.one (by omega))
 | .read n _, p, _, _ => by
  rw [cSt]
  exact (LeK.append (.one (by omega)) (.one (by omega))).append (bw_set h n)
theorem bw_sts {E : CE} (h : EB E) : ∀ (l : List St) (p : Nat), WhSts l -> p + (cSts E p l).length <= 1000000 -> LeK (cSts E p l)
 | [], p, _, _ => by rw [cSts]; exact .nil
 | a :: l, p, hw, hl => by
  rw [WhSts] at hw
  rw [cSts] at hl ⊢
  rw [List.length_append] at hl
  exact (bw_st h a p hw.1 (by omega)).append (bw_sts h l _ hw.2 (by omega))
end
structure CB (c : CG) : Prop where
 w : LeK c.words
 g1 : ∀ n, (c.g n).1 <= 2147483647
 g2 : ∀ n, (c.g n).2 <= 2147483647
theorem putG_le {g : ByteArray -> Nat × Nat} {n : ByteArray} {x : Nat × Nat} (h1 : ∀ n, (g n).1 <= 2147483647) (h2 : ∀ n, (g n).2 <= 2147483647) (hx : x.1 <= 2147483647 /\ x.2 <= 2147483647) : (∀ k, (putG g n x k).1 <= 2147483647) /\ (∀ k, (putG g n x k).2 <= 2147483647) := by
 refine ⟨fun k => ?_, fun k => ?_⟩ <;> unfold putG <;> split
 ·exact hx.1
 ·exact h1 k
 ·exact hx.2
 ·exact h2 k
theorem eb_of {f : Bool} {g : ByteArray -> Nat × Nat} {r : Ro} (h1 : ∀ n, (g n).1 <= 2147483647) (h2 : ∀ n, (g n).2 <= 2147483647) (hr : r.params.length + r.locals.length <= 700) : EB (ceOf f g r) := by
 have e : r.cells.length = r.params.length + r.locals.length := by unfold Ro.cells; simp
 refine ⟨h1, h2, fun n k hk => ?_, ?_⟩
 ·have := findIdx_lt (show r.cells.findIdx? _ = some k from hk); omega
 ·show r.cells.length <= _; omega
theorem bw_gl {T : List Tok} (hT : T.length <= 601) {c : CG} {g : Gl} (h : CB c) (hw : GlWh T g) (hs : ∀ n p s a, g = .arr n p s a -> s <= 20) (hp : c.places <= 1000000) (hl : (cGl c g).words.length <= 1000000) : CB (cGl c g) := by
 cases g with
 | var n p =>
  have := putG_le (n := n) (x := (c.places, 1)) h.g1 h.g2 ⟨by simp only; omega, by simp⟩
  exact ⟨h.w, this.1, this.2⟩
 | arr n p s a =>
  have := hs n p s a rfl
  have := putG_le (n := n) (x := (c.places, s)) h.g1 h.g2 ⟨by simp only; omega, by simp only; omega⟩
  exact ⟨h.w, this.1, this.2⟩
 | proc r =>
  have hb : r.params.length + r.locals.length <= T.length := hw.2
  have hr : WhRo r := hw.1
  have hl' : (c.words ++ [25, r.locals.length] ++ cSts (ceOf false (putG c.g r.name.1 (c.words.length, 0)) r) (c.words.length + 2) r.body ++ [26]).length <= 1000000 := hl
  simp only [List.length_append, List.length_cons, List.length_nil] at hl'
  have hg := putG_le (n := r.name.1) (x := (c.words.length, 0)) h.g1 h.g2 ⟨by simp only; omega, by simp⟩
  refine ⟨?_, hg.1, hg.2⟩
  exact ((h.w.append (.two (by omega) (by omega))).append (bw_sts (eb_of hg.1 hg.2 (by omega)) r.body _ hr.body.2 (by omega))).append (.one (by omega))
 | func r =>
  have hb : r.params.length + r.locals.length <= T.length := hw.2
  have hr : WhRo r := hw.1
  have hl' : (c.words ++ [1] ++ [25, r.locals.length + 1] ++ cSts (ceOf true (putG c.g r.name.1 (c.words.length, 0)) r) (c.words.length + 3) r.body ++ [27, r.cells.length]).length <= 1000000 := hl
  simp only [List.length_append, List.length_cons, List.length_nil] at hl'
  have hg := putG_le (n := r.name.1) (x := (c.words.length, 0)) h.g1 h.g2 ⟨by simp only; omega, by simp⟩
  have e : r.cells.length = r.params.length + r.locals.length := by unfold Ro.cells; simp
  refine ⟨?_, hg.1, hg.2⟩
  exact (((h.w.append (.one (by omega))).append (.two (by omega) (by omega))).append (bw_sts (eb_of hg.1 hg.2 (by omega)) r.body _ hr.body.2 (by omega))).append (.two (by omega) (by omega))
theorem places_le (G : List Gl) (hs : ∀ g ∈ G, glSize g <= 20) (hG : G.length <= 601) : ∀ k, k <= G.length -> (cgAt G k).places <= 20 * k
 | 0, _ => by unfold cgAt; rw [List.take_zero]; show 0 <= _; omega
 | k + 1, hk => by
  have ih := places_le G hs hG k (by omega)
  rw [cgAt_succ (by omega), cGl_form]
  have e : G.getD k gl0 = G[k]'(by omega) := by simp [List.getD, show k < G.length by omega]
  have := hs (G.getD k gl0) (by rw [e]; exact List.getElem_mem _)
  simp only
  omega
theorem bw_program {T : List Tok} {p : Pr} (hw : PrWh T p) (hT : T.length <= 601) (hl : lookPr ⟨[], [], none, false⟩ p = none) (hlen : (cPr p).1.length <= 5000) :
  LeK (cPr p).1 /\ ∀ k, k <= p.globals.length -> (cgAt p.globals k).places <= 1000000 := by
 unfold lookPr at hl
 obtain ⟨l1, l2⟩ := or_none hl
 obtain ⟨g1, g2, g3, g4⟩ := look_gls p.globals _ l1 rfl rfl
 have hGl := hw.len
 have hsz : ∀ g ∈ p.globals, glSize g <= 20 := by
  intro g hg
  obtain ⟨k, hk, rfl⟩ := List.getElem_of_mem hg
  have := (g4 k p.globals[k] (List.getElem?_eq_getElem hk)).2
  generalize p.globals[k] = g at *
  cases g with
  | var n q => simp [glSize]
  | arr n q s a => exact this.2
  | proc r => simp [glSize]
  | func r => simp [glSize]
 have hpl := places_le p.globals hsz (by omega)
 have hwl : ∀ k, k <= p.globals.length -> (cgAt p.globals k).words.length <= (cPr p).1.length := fun k hk => by
  obtain ⟨t, ht⟩ := cg_words (G := p.globals) (i := k) p.globals.length hk (Nat.le_refl _)
  have e1 : (cgAt p.globals p.globals.length).words.length = (cgAt p.globals k).words.length + t.length := by rw [ht]; simp
  have e2 : (cPr p).1.length = (cgAt p.globals p.globals.length).words.length + (cSts (ceTop (cgAt p.globals p.globals.length)) (cgAt p.globals p.globals.length).words.length p.body).length + 1 := by
   unfold cPr cgAt; rw [List.take_length, List.length_append, List.length_append]; rfl
  omega
 have hcb : ∀ k, k <= p.globals.length -> CB (cgAt p.globals k) := by
  intro k
  induction k with
  | zero => intro _; unfold cgAt; rw [List.take_zero]; exact ⟨.nil, fun _ => Nat.zero_le _, fun _ => Nat.zero_le _⟩
  | succ k ih =>
   intro hk
   have e : p.globals.getD k gl0 = p.globals[k]'(by omega) := by simp [List.getD, show k < p.globals.length by omega]
   have hmem : p.globals.getD k gl0 ∈ p.globals := by rw [e]; exact List.getElem_mem _
   have h1 := hwl (k + 1) hk
   have h2 := hpl k (by omega)
   rw [cgAt_succ (by omega)] at h1 ⊢
   exact bw_gl hT (ih (by omega)) (hw.globals _ hmem) (fun n q s a he => by have := hsz _ hmem; rw [he] at this; exact this) (by omega) (by omega)
 refine ⟨?_, fun k hk => by have := hpl k hk; omega⟩
 have hc := hcb p.globals.length (Nat.le_refl _)
 have e2 : (cPr p).1 = (cgAt p.globals p.globals.length).words ++ cSts (ceTop (cgAt p.globals p.globals.length)) (cgAt p.globals p.globals.length).words.length p.body ++ [0] := by unfold cPr cgAt; rw [List.take_length]
 rw [e2] at hlen ⊢
 simp only [List.length_append, List.length_cons, List.length_nil] at hlen
 exact (hc.w.append (bw_sts ⟨hc.g1, hc.g2, (fun n k hk => by cases hk), Nat.zero_le _⟩ p.body _ hw.body.2 (by omega))).append (.one (by omega))
end Go.Proofs.YtklobognaldjpaaGreat
