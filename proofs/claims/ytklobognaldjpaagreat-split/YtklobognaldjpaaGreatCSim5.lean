/- Plain: the machine and the code of an expression, whole. Plain: the machine and the code of a statement. Plain: the machine and the code of a statement, whole. -/
import Derived.Test.YtklobognaldjpaaGreatCRun2
namespace Go.Proofs.YtklobognaldjpaaGreat
section
variable {W : List Nat} {B : Nat} {E : CE} {gs : List (ByteArray × Nat)} {hn : List ByteArray} {okC : Bool -> ByteArray -> Nat -> Prop} {call : Bool -> ByteArray -> List Int -> RS -> Int × RS} {d : Nat}
theorem step_unless {C : DC} {s : RS} {m : MS} {p a : Nat} {ops : List Int} {v : Int} (h : Sees B gs hn C s m p (ops ++ [v])) (hc : CodeAt W p [23, a]) :
  Rch W B m { m with pc := if v = 0 then a else p + 2, stack := C.S ++ (s.here.map (·.2) ++ C.extra) ++ ops } := by
 obtain ⟨c0, c1⟩ := hc.two
 obtain ⟨t1, t2⟩ := sees_top h
 refine Rch.one h.over h.small ?_
 unfold stepM
 rw [h.pc, c0]
 simp only [c1, Option.bind_some, t1, Option.map_some, t2]
 split <;> rfl
theorem step_jump {C : DC} {s : RS} {m : MS} {p a : Nat} {ops : List Int} (h : Sees B gs hn C s m p ops) (hc : CodeAt W p [22, a]) :
  Rch W B m { m with pc := a, stack := C.S ++ (s.here.map (·.2) ++ C.extra) ++ ops } := by
 obtain ⟨c0, c1⟩ := hc.two
 refine Rch.one h.over h.small ?_
 unfold stepM
 rw [h.pc, c0]
 simp only [c1, Option.map_some]
 rw [<- h.stack]
def topV (op : Nat) (v : Int) : Int := if op = 19 then wrapV (-v) else if op = 20 then truthV (v == 0) else truthV (v != 0)
theorem step_top {C : DC} {s : RS} {m : MS} {p op : Nat} {ops : List Int} {v : Int} (h : Sees B gs hn C s m p (ops ++ [v])) (hc : W[p]? = some op) (ho : op = 19 ∨ op = 20 ∨ op = 21) :
  Rch W B m { m with pc := p + 1, stack := C.S ++ (s.here.map (·.2) ++ C.extra) ++ (ops ++ [topV op v]) } := by
 obtain ⟨t1, t2⟩ := sees_top h
 refine Rch.one h.over h.small ?_
 unfold stepM
 rw [h.pc, hc]
 rcases ho with rfl | rfl | rfl
 all_goals
  simp only [t1, Option.map_some, t2, List.append_assoc]
  rfl
theorem step_find {C : DC} {s : RS} {m : MS} {p a n : Nat} {ops : List Int} {x : Int} (h : Sees B gs hn C s m p (ops ++ [x])) (hc : CodeAt W p [7, a, n]) :
  Rch W B m (if x < 0 ∨ (n : Int) <= x then ({ m with pc := p + 3, stack := C.S ++ (s.here.map (·.2) ++ C.extra) ++ ops } : MS).end_ 9 else { m with pc := p + 3, stack := C.S ++ (s.here.map (·.2) ++ C.extra) ++ (ops ++ [wrapV (a + x)]) }) := by
 obtain ⟨c0, c1, c2⟩ := hc.three
 obtain ⟨t1, t2⟩ := sees_top h
 refine Rch.one h.over h.small ?_
 unfold stepM
 rw [h.pc, c0]
 simp only [c1, c2, Option.bind_some, t1, Option.map_some, t2, List.append_assoc]
theorem step_getAt {C : DC} {s : RS} {m : MS} {p : Nat} {ops : List Int} {x v : Int} (h : Sees B gs hn C s m p (ops ++ [x])) (hc : W[p]? = some 8) (h0 : 0 <= x) (hv : m.places[x.toNat]? = some v) :
  Rch W B m { m with pc := p + 1, stack := C.S ++ (s.here.map (·.2) ++ C.extra) ++ (ops ++ [v]) } := by
 obtain ⟨t1, t2⟩ := sees_top h
 refine Rch.one h.over h.small ?_
 unfold stepM
 rw [h.pc, hc]
 simp only [t1, Option.bind_some, if_pos h0, hv, Option.map_some, t2, List.append_assoc]
theorem sum_take_le : ∀ (l : List Nat) (k : Nat) (hk : k < l.length), (l.take k).sum + l[k] <= l.sum
 | a :: l, 0, _ => by simp
 | a :: l, k + 1, hk => by
  have := sum_take_le l k (by simpa using hk)
  simp only [List.take_succ_cons, List.sum_cons, List.getElem_cons_succ]
  omega
theorem off_le (gs : List (ByteArray × Nat)) {k : Nat} (hk : k < gs.length) : offOf gs k + (gs.getD k default).2 <= (gs.map (·.2)).sum := by
 have := sum_take_le (gs.map (·.2)) k (by simpa using hk)
 unfold offOf
 rw [<- List.map_take] at this
 simpa [List.getD, hk] using this
theorem get_len (E : CE) (n : ByteArray) : (E.get n).length = 2 := by unfold CE.get; split <;> rfl
mutual
theorem simEx (hcall : CallOk W B E gs hn okC call d) (hbig : (gs.map (·.2)).sum <= 1000000) : ∀ (e : Ex) (p : Nat) (C : DC) (s : RS) (m : MS) (ops : List Int), okEx E gs hn okC e -> C.calls.length = d -> CodeAt W p (cEx E p e) -> Sees B gs hn C s m p ops ->
  Out W B m (evalEx call e s).2 (fun m' => Sees B gs hn C (evalEx call e s).2 m' (p + (cEx E p e).length) (ops ++ [(evalEx call e s).1]))
 | .nil, p, C, s, m, ops, ho, _, _, _ => by rw [okEx] at ho; exact ho.elim
 | .num v, p, C, s, m, ops, ho, _, hc, h => by
  rw [okEx] at ho
  rw [cEx] at hc ⊢
  rw [evalEx]
  exact Out.now h.stop _ (step_push h hc ho) h.goes
 | .var n q, p, C, s, m, ops, ho, _, hc, h => by
  rw [okEx] at ho
  rw [cEx] at hc ⊢
  rw [evalEx]
  exact Out.now h.stop _ (sim_var h ho hc) (h.goes (.inr (by rw [get_len]; simp only [List.length_append, List.length_cons, List.length_nil]; omega)))
 | .elem n q i, p, C, s, m, ops, ho, hd, hc, h => by
  rw [okEx] at ho
  rw [cEx] at hc ⊢
  obtain ⟨⟨k, hk, hE⟩, hoi⟩ := ho
  have c1 := hc.left.left
  have c2 := hc.left.right
  have c3 := hc.right
  have ih := simEx hcall hbig i p C s m ops hoi hd c1 h
  rw [evalEx]
  by_cases hs : (evalEx call i s).2.stop.isSome = true
  ·rw [if_pos hs]; exact ih.stopped hs
  ·rw [if_neg hs]
   refine ih.bind hs fun m1 h1 => ?_
   generalize (evalEx call i s).2 = s1 at *
   generalize (evalEx call i s).1 = x at *
   have hkl : k < s1.glob.length := by have := findIdx_lt hk; rw [<- h1.shape] at this; simpa [shapeOf] using this
   have hrow : s1.row n = (s1.glob.getD k default).vals := by unfold RS.row; rw [globIx_shape, h1.shape, hk]
   have hlen : (s1.glob.getD k default).vals.length = (gs.getD k default).2 := by rw [<- shape_get _ _ hkl, h1.shape]
   have hst := step_find h1 c2
   rw [hE] at hst
   rw [hrow]
   have hkg := off_le gs (findIdx_lt hk)
   by_cases hr : inRow (s1.glob.getD k default).vals x = true
   ·rw [if_pos hr]
    unfold inRow at hr
    rw [decide_eq_true_iff, hlen] at hr
    rw [if_neg (by simp only; omega)] at hst
    have hw : wrapV ((offOf gs k : Nat) + x) = (offOf gs k : Nat) + x := wrapV_id (by omega) (by omega)
    simp only [hw] at hst
    have h2 : Sees B gs hn C s1 _ (p + (cEx E p i).length + 3) (ops ++ [((offOf gs k : Nat) : Int) + x]) := h1.goes
    have hv : m1.places[(((offOf gs k : Nat) : Int) + x).toNat]? = some ((s1.glob.getD k default).vals.getD x.toNat 0) := by
     have := flat_get s1.glob hkl (i := x.toNat) (by omega)
     rw [h1.places, <- this, h1.shape]
     congr 1; omega
    have h3 := step_getAt h2 (by have := c3.one; simpa [Nat.add_assoc] using this) (by omega) hv
    refine Out.now h1.stop _ (hst.trans h3) ?_
    have : p + (cEx E p i ++ [7, (E.g n).fst, (E.g n).snd] ++ [8]).length = p + (cEx E p i).length + 3 + 1 := by simp; omega
    rw [this]
    exact h1.goes
   ·rw [if_neg hr]
    unfold inRow at hr
    rw [decide_eq_true_iff, hlen] at hr
    rw [if_pos (by simp only; omega)] at hst
    exact Out.dies (c := 9) rfl _ hst rfl h1.out h1.used
 | .call n q args, p, C, s, m, ops, ho, hd, hc, h => by
  rw [okEx] at ho
  rw [cEx] at hc ⊢
  have ih := simExs hcall hbig args p C s m ops ho.2 hd hc.left h
  rw [evalEx]
  by_cases hs : (evalExs call args s).2.stop.isSome = true
  ·rw [if_pos hs]; exact ih.stopped hs
  ·rw [if_neg hs]
   refine ih.bind hs fun m1 h1 => ?_
   have hl := h1.2
   have hr := hc.right
   rw [<- hl] at hr
   have := hcall true n (evalExs call args s).1 C (evalExs call args s).2 m1 _ ops (by rw [hl]; exact ho.1) hd hr h1.1
   refine this.mono fun m' hm' => ?_
   rw [List.length_append]
   exact hm'
 | .bin op l r, p, C, s, m, ops, ho, hd, hc, h => by
  rw [okEx] at ho
  rw [cEx] at hc ⊢
  rw [evalEx]
  have hcl : CodeAt W p (cEx E p l) := by
   split at hc
   ·exact hc.left.left.left.left.left
   ·split at hc
    ·exact hc.left.left.left.left.left
    ·exact hc.left.left
  have ih := simEx hcall hbig l p C s m ops ho.1 hd hcl h
  by_cases hs : (evalEx call l s).2.stop.isSome = true
  ·rw [if_pos hs]; exact ih.stopped hs
  ·rw [if_neg hs]
   refine ih.bind hs fun m1 h1 => ?_
   generalize (evalEx call l s).2 = s1 at *
   generalize (evalEx call l s).1 = x at *
   by_cases ha : isW op [97, 110, 100] = true
   ·rw [if_pos ha] at hc ⊢
    rw [if_pos ha]
    have c5 := hc.right
    have c4 := hc.left.right
    have c3 := hc.left.left.right
    have c2 := hc.left.left.left.right
    have c1 := hc.left.left.left.left.right
    have hu := step_unless h1 c1
    simp only [List.length_append, List.length_cons, List.length_nil] at c2 c3 c4 c5 ⊢
    by_cases hx : x = 0
    ·rw [if_pos hx] at hu ⊢
     have h2 : Sees B gs hn C s1 _ (p + (cEx E p l).length + 2 + (cEx E (p + (cEx E p l).length + 2) r).length + 3) ops := h1.goes
     have c5' : CodeAt W (p + (cEx E p l).length + 2 + (cEx E (p + (cEx E p l).length + 2) r).length + 3) [2, 0] := by
      have e : p + (cEx E p l).length + 2 + (cEx E (p + (cEx E p l).length + 2) r).length + 3 = p + ((cEx E p l).length + (0 + 1 + 1) + (cEx E (p + (cEx E p l).length + 2) r).length + (0 + 1) + (0 + 1 + 1)) := by omega
      rw [e]; exact c5
     have h3 := step_push h2 c5' (by omega)
     refine Out.now h1.stop _ (hu.trans h3) ?_
     rw [show p + ((cEx E p l).length + (0 + 1 + 1) + (cEx E (p + (cEx E p l).length + 2) r).length + (0 + 1) + (0 + 1 + 1) + (0 + 1 + 1)) = p + (cEx E p l).length + 2 + (cEx E (p + (cEx E p l).length + 2) r).length + 3 + 2 from by omega]
     exact h1.goes
    ·rw [if_neg hx] at hu ⊢
     have h2 : Sees B gs hn C s1 _ (p + (cEx E p l).length + 2) ops := h1.goes
     have ihr := simEx hcall hbig r (p + (cEx E p l).length + 2) C s1 _ ops ho.2 hd (by
      have e : p + (cEx E p l).length + 2 = p + ((cEx E p l).length + (0 + 1 + 1)) := by omega
      rw [e] at c2 ⊢; exact c2) h2
     refine Out.after hu ?_
     by_cases hs2 : (evalEx call r s1).2.stop.isSome = true
     ·exact ihr.stopped hs2
     ·refine ihr.bind hs2 fun m3 h3 => ?_
      generalize (evalEx call r s1).2 = s2 at *
      generalize (evalEx call r s1).1 = y at *
      have e3 : p + (cEx E p l).length + 2 + (cEx E (p + (cEx E p l).length + 2) r).length = p + ((cEx E p l).length + (0 + 1 + 1) + (cEx E (p + (cEx E p l).length + 2) r).length) := by omega
      have h4 := step_top h3 (op := 21) (by rw [e3]; exact c3.one) (by simp)
      have h5 : Sees B gs hn C s2 _ (p + (cEx E p l).length + 2 + (cEx E (p + (cEx E p l).length + 2) r).length + 1) (ops ++ [topV 21 y]) := h3.goes
      have h6 := step_jump h5 (a := p + (cEx E p l).length + 2 + (cEx E (p + (cEx E p l).length + 2) r).length + 5) (by
       rw [show p + (cEx E p l).length + 2 + (cEx E (p + (cEx E p l).length + 2) r).length + 1 = p + ((cEx E p l).length + (0 + 1 + 1) + (cEx E (p + (cEx E p l).length + 2) r).length + (0 + 1)) from by omega]
       exact c4)
      refine Out.now h3.stop _ (h4.trans h6) ?_
      rw [show p + ((cEx E p l).length + (0 + 1 + 1) + (cEx E (p + (cEx E p l).length + 2) r).length + (0 + 1) + (0 + 1 + 1) + (0 + 1 + 1)) = p + (cEx E p l).length + 2 + (cEx E (p + (cEx E p l).length + 2) r).length + 5 from by omega]
      exact h3.goes
   ·rw [if_neg ha] at hc ⊢
    rw [if_neg ha]
    by_cases hb : isW op [111, 114] = true
    ·rw [if_pos hb] at hc ⊢
     rw [if_pos hb]
     have c5 := hc.right
     have c4 := hc.left.right
     have c3 := hc.left.left.right
     have c2 := hc.left.left.left.right
     have c1 := hc.left.left.left.left.right
     have hu := step_unless h1 c1
     simp only [List.length_append, List.length_cons, List.length_nil] at c2 c3 c4 c5 ⊢
     by_cases hx : x = 0
     ·rw [if_pos hx] at hu
      rw [if_neg (by simpa using hx)]
      have h2 : Sees B gs hn C s1 _ (p + (cEx E p l).length + 6) ops := h1.goes
      have ihr := simEx hcall hbig r (p + (cEx E p l).length + 6) C s1 _ ops ho.2 hd (by
       have e : p + (cEx E p l).length + 6 = p + ((cEx E p l).length + (0 + 1 + 1) + (0 + 1 + 1) + (0 + 1 + 1)) := by omega
       rw [e] at c4 ⊢; exact c4) h2
      refine Out.after hu ?_
      by_cases hs2 : (evalEx call r s1).2.stop.isSome = true
      ·exact ihr.stopped hs2
      ·refine ihr.bind hs2 fun m3 h3 => ?_
       generalize (evalEx call r s1).2 = s2 at *
       generalize (evalEx call r s1).1 = y at *
       have e3 : p + (cEx E p l).length + 6 + (cEx E (p + (cEx E p l).length + 6) r).length = p + ((cEx E p l).length + (0 + 1 + 1) + (0 + 1 + 1) + (0 + 1 + 1) + (cEx E (p + (cEx E p l).length + 6) r).length) := by omega
       have h4 := step_top h3 (op := 21) (by rw [e3]; exact c5.one) (by simp)
       refine Out.now h3.stop _ h4 ?_
       rw [show p + ((cEx E p l).length + (0 + 1 + 1) + (0 + 1 + 1) + (0 + 1 + 1) + (cEx E (p + (cEx E p l).length + 6) r).length + (0 + 1)) = p + (cEx E p l).length + 6 + (cEx E (p + (cEx E p l).length + 6) r).length + 1 from by omega]
       exact h3.goes
     ·rw [if_neg hx] at hu
      rw [if_pos (by simpa using hx)]
      have h2 : Sees B gs hn C s1 _ (p + (cEx E p l).length + 2) ops := h1.goes
      have h3 := step_push h2 (v := 1) (by
       rw [show p + (cEx E p l).length + 2 = p + ((cEx E p l).length + (0 + 1 + 1)) from by omega]; exact c2) (by omega)
      have h4 : Sees B gs hn C s1 _ (p + (cEx E p l).length + 2 + 2) (ops ++ [((1 : Nat) : Int)]) := h2.goes
      have h5 := step_jump h4 (a := p + (cEx E p l).length + 6 + (cEx E (p + (cEx E p l).length + 6) r).length + 1) (by
       rw [show p + (cEx E p l).length + 2 + 2 = p + ((cEx E p l).length + (0 + 1 + 1) + (0 + 1 + 1)) from by omega]; exact c3)
      refine Out.now h1.stop _ (hu.trans (h3.trans h5)) ?_
      rw [show p + ((cEx E p l).length + (0 + 1 + 1) + (0 + 1 + 1) + (0 + 1 + 1) + (cEx E (p + (cEx E p l).length + 6) r).length + (0 + 1)) = p + (cEx E p l).length + 6 + (cEx E (p + (cEx E p l).length + 6) r).length + 1 from by omega]
      exact h1.goes
    ·rw [if_neg hb] at hc ⊢
     rw [if_neg hb]
     have c2 := hc.left.right
     have c3 := hc.right
     have ihr := simEx hcall hbig r (p + (cEx E p l).length) C s1 m1 (ops ++ [x]) ho.2 hd c2 h1
     by_cases hs2 : (evalEx call r s1).2.stop.isSome = true
     ·rw [if_pos hs2]; exact ihr.stopped hs2
     ·rw [if_neg hs2]
      refine ihr.bind hs2 fun m3 h3 => ?_
      generalize (evalEx call r s1).2 = s2 at *
      generalize (evalEx call r s1).1 = y at *
      obtain ⟨o1, o2⟩ := op_range op
      have h4 := step_join h3 (op := opNum op) (by have := c3.one; rw [List.length_append] at this; rw [Nat.add_assoc]; exact this) o1 o2
      rw [join_bin] at h4
      cases hv : binV op x y with
      | some v =>
       rw [hv] at h4
       refine Out.now h3.stop _ (Rch.one h3.over h3.small h4) ?_
       simp only [List.length_append, List.length_cons, List.length_nil]
       rw [show p + ((cEx E p l).length + (cEx E (p + (cEx E p l).length) r).length + (0 + 1)) = p + (cEx E p l).length + (cEx E (p + (cEx E p l).length) r).length + 1 from by omega]
       exact h3.goes
      | none =>
       rw [hv] at h4
       exact Out.dies (c := 10) rfl _ (Rch.one h3.over h3.small h4) rfl h3.out h3.used
 | .un op e, p, C, s, m, ops, ho, hd, hc, h => by
  rw [okEx] at ho
  rw [cEx] at hc ⊢
  rw [evalEx]
  have ih := simEx hcall hbig e p C s m ops ho hd hc.left h
  by_cases hs : (evalEx call e s).2.stop.isSome = true
  ·exact ih.stopped hs
  ·refine ih.bind hs fun m1 h1 => ?_
   have c2 := hc.right.one
   have h2 := step_top h1 c2 (by unfold unNum; split <;> simp)
   refine Out.now h1.stop _ h2 ?_
   have e2 : (if isW op [45] = true then wrapV (-(evalEx call e s).1) else truthV ((evalEx call e s).1 == 0)) = topV (unNum op) (evalEx call e s).1 := by
    unfold topV unNum; split <;> rfl
   rw [List.length_append, e2]
   exact h1.goes
theorem simExs (hcall : CallOk W B E gs hn okC call d) (hbig : (gs.map (·.2)).sum <= 1000000) : ∀ (l : List Ex) (p : Nat) (C : DC) (s : RS) (m : MS) (ops : List Int), okExs E gs hn okC l -> C.calls.length = d -> CodeAt W p (cExs E p l) -> Sees B gs hn C s m p ops ->
  Out W B m (evalExs call l s).2 (fun m' => Sees B gs hn C (evalExs call l s).2 m' (p + (cExs E p l).length) (ops ++ (evalExs call l s).1) /\ (evalExs call l s).1.length = l.length)
 | [], p, C, s, m, ops, _, _, _, h => by
  rw [cExs, evalExs]
  refine Out.now h.stop m (.refl _) ⟨?_, rfl⟩
  simpa using h
 | e :: l, p, C, s, m, ops, ho, hd, hc, h => by
  rw [okExs] at ho
  rw [cExs] at hc ⊢
  rw [evalExs]
  have ih := simEx hcall hbig e p C s m ops ho.1 hd hc.left h
  by_cases hs : (evalEx call e s).2.stop.isSome = true
  ·rw [if_pos hs]; exact ih.stopped hs
  ·rw [if_neg hs]
   refine ih.bind hs fun m1 h1 => ?_
   have ih2 := simExs hcall hbig l (p + (cEx E p e).length) C (evalEx call e s).2 m1 (ops ++ [(evalEx call e s).1]) ho.2 hd hc.right h1
   refine ih2.mono fun m2 h2 => ⟨?_, ?_⟩
   ·rw [List.length_append, <- Nat.add_assoc]
    have := h2.1
    rw [List.append_assoc] at this
    exact this
   ·rw [List.length_cons, List.length_cons, h2.2]
end
end
def okSet (E : CE) (gs : List (ByteArray × Nat)) (hn : List ByteArray) (n : ByteArray) : Prop :=
 (∃ i, hn.findIdx? (fun x => eqB x n) = some i /\ (E.l n = some i ∨ (E.l n = none /\ eqB n E.res = true /\ i = E.n))) ∨
 (hn.findIdx? (fun x => eqB x n) = none /\ E.l n = none /\ eqB n E.res = false /\ ∃ k, gs.findIdx? (fun x => eqB x.1 n) = some k /\ (gs.getD k default).2 = 1 /\ (E.g n).1 = offOf gs k)
mutual
def okSt (E : CE) (gs : List (ByteArray × Nat)) (hn : List ByteArray) (okC : Bool -> ByteArray -> Nat -> Prop) : St -> Prop
 | .nil => False
 | .assign n _ e => okSet E gs hn n /\ okEx E gs hn okC e
 | .put n _ i e => okArr E gs n /\ okEx E gs hn okC i /\ okEx E gs hn okC e
 | .proc n _ args => okC false n args.length /\ okExs E gs hn okC args
 | .ite c t f => okEx E gs hn okC c /\ okSt E gs hn okC t /\ (f.isNil = false -> okSt E gs hn okC f)
 | .loop c b => okEx E gs hn okC c /\ okSt E gs hn okC b
 | .block l => okSts E gs hn okC l
 | .write e => okEx E gs hn okC e
 | .read n _ => okSet E gs hn n
def okSts (E : CE) (gs : List (ByteArray × Nat)) (hn : List ByteArray) (okC : Bool -> ByteArray -> Nat -> Prop) : List St -> Prop
 | [] => True
 | x :: l => okSt E gs hn okC x /\ okSts E gs hn okC l
end
section
variable {W : List Nat} {B : Nat} {E : CE} {gs : List (ByteArray × Nat)} {hn : List ByteArray} {okC : Bool -> ByteArray -> Nat -> Prop} {call : Bool -> ByteArray -> List Int -> RS -> Int × RS} {d : Nat}
theorem step_unit {C : DC} {s : RS} {m : MS} {p : Nat} {ops : List Int} (h : Sees B gs hn C s m p ops) (hc : W[p]? = some 1) :
  Out W B m (s.unit B) (fun m' => Sees B gs hn C (s.unit B) m' (p + 1) ops) := by
 have hst : stepM W B m = some (if m.used = B then ({ m with pc := m.pc + 1 } : MS).end_ 8 else { m with pc := m.pc + 1, used := m.used + 1 }) := by
  unfold stepM; rw [h.pc, hc]; rfl
 by_cases hu : B <= s.used
 ·have e : s.unit B = s.fail 0 := by unfold RS.unit; rw [if_pos hu]
  rw [e]
  have hl := h.lid
  rw [if_pos (by rw [h.used]; omega)] at hst
  exact Out.dies (c := 0) rfl _ (Rch.one h.over h.small hst) rfl h.out h.used
 ·have e : s.unit B = { s with used := s.used + 1 } := by unfold RS.unit; rw [if_neg hu]
  rw [e]
  have hl := h.lid
  rw [if_neg (by rw [h.used]; omega)] at hst
  refine Out.now h.stop _ (Rch.one h.over h.small hst) ⟨by show m.pc + 1 = _; rw [h.pc], h.stack, h.base, h.calls, h.places, h.input, h.out, by show m.used + 1 = s.used + 1; rw [h.used], h.over, h.stop, by show s.used + 1 <= B; omega, h.outs, h.shape, h.names, by have := h.lim; omega, h.deep⟩
theorem sim_set {C : DC} {s : RS} {m : MS} {p : Nat} {n : ByteArray} {v : Int} (h : Sees B gs hn C s m p ([] ++ [v])) (ho : okSet E gs hn n) (hc : CodeAt W p (E.set n)) :
  ∃ m', Rch W B m m' /\ Sees B gs hn C (s.set n v) m' (p + (E.set n).length) [] := by
 obtain ⟨t1, t2⟩ := sees_top h
 rcases ho with ⟨i, h1, h2⟩ | ⟨h1, h2, h2b, k, h3, h4, h5⟩
 ·have hset : E.set n = [6, i] := by
   unfold CE.set
   rcases h2 with h2 | ⟨h2, h3, h4⟩
   ·rw [h2]
   ·rw [h2]; simp only [h3, if_true, h4]
  rw [hset] at hc ⊢
  obtain ⟨c0, c1⟩ := hc.two
  have hi : i < s.here.length := by have := findIdx_lt h1; rw [<- h.names, List.length_map] at this; exact this
  have es : s.set n v = { s with here := s.here.set i ((s.here.getD i default).1, v) } := by unfold RS.set; rw [hereIx_names, h.names, h1]
  have hst : stepM W B m = some { m with pc := p + 2, stack := (C.S ++ (s.here.map (fun x : ByteArray × Int => x.2) ++ C.extra) ++ []).set (C.S.length + i) v } := by
   unfold stepM
   rw [h.pc, c0]
   simp only [c1, Option.bind_some, t1, t2, h.base]
   rw [if_pos]
   simp; omega
  refine ⟨_, Rch.one h.over h.small hst, ?_⟩
  rw [es]
  refine ⟨rfl, ?_, h.base, h.calls, h.places, h.input, h.out, h.used, h.over, h.stop, h.lid, h.outs, h.shape, ?_, Nat.zero_le _, h.deep⟩
  ·show (C.S ++ (s.here.map (fun x : ByteArray × Int => x.2) ++ C.extra) ++ []).set (C.S.length + i) v = C.S ++ ((s.here.set i ((s.here.getD i default).1, v)).map (·.2) ++ C.extra) ++ []
   rw [List.append_nil, List.append_nil, List.set_append_right _ _ (by omega), Nat.add_sub_cancel_left, List.set_append_left _ _ (by rw [List.length_map]; exact hi), List.map_set]
  ·show (s.here.set i ((s.here.getD i default).1, v)).map (·.1) = hn
   rw [<- h.names, List.map_set]
   apply List.ext_getElem
   ·simp
   ·intro j j1 j2
    by_cases e : i = j
    ·subst e; simp [List.getD, hi]
    ·simp [e]
 ·have hset : E.set n = [4, (E.g n).1] := by
   unfold CE.set
   rw [h2]; simp only [h2b]; rfl
  rw [hset] at hc ⊢
  obtain ⟨c0, c1⟩ := hc.two
  have hk : k < s.glob.length := by have := findIdx_lt h3; rw [<- h.shape] at this; simpa [shapeOf] using this
  have hv : (s.glob.getD k default).vals.length = 1 := by rw [<- shape_get _ _ hk, h.shape, h4]
  have es : s.set n v = { s with glob := s.glob.set k ⟨(s.glob.getD k default).name, (s.glob.getD k default).vals.set 0 v⟩ } := by
   unfold RS.set; rw [hereIx_names, h.names, h1, globIx_shape, h.shape, h3]
  obtain ⟨f1, f2⟩ := flat_set s.glob hk (i := 0) (by omega) v
  have hlt : (E.g n).1 < m.places.length := by
   have := flat_get s.glob hk (i := 0) (by omega)
   rw [h.shape, Nat.add_zero] at this
   rw [h.places, h5]
   exact (List.getElem?_eq_some_iff.1 this).1
  have hst : stepM W B m = some { m with pc := p + 2, stack := C.S ++ (s.here.map (·.2) ++ C.extra) ++ [], places := m.places.set (E.g n).1 v } := by
   unfold stepM
   rw [h.pc, c0]
   simp only [c1, Option.bind_some, t1, t2, if_pos hlt]
  refine ⟨_, Rch.one h.over h.small hst, ?_⟩
  rw [es]
  refine ⟨rfl, rfl, h.base, h.calls, ?_, h.input, h.out, h.used, h.over, h.stop, h.lid, h.outs, ?_, h.names, Nat.zero_le _, h.deep⟩
  ·show m.places.set (E.g n).1 v = flat _
   rw [f1, h.places, h5, h.shape, Nat.add_zero]
  ·show shapeOf _ = gs
   rw [f2, h.shape]
end
section
variable {W : List Nat} {B : Nat} {E : CE} {gs : List (ByteArray × Nat)} {hn : List ByteArray} {okC : Bool -> ByteArray -> Nat -> Prop} {call : Bool -> ByteArray -> List Int -> RS -> Int × RS} {d : Nat}
theorem CodeAt.at {p q : Nat} {c : List Nat} (h : CodeAt W p c) (e : p = q) : CodeAt W q c := e ▸ h
theorem Sees.at {C : DC} {s : RS} {m : MS} {p q : Nat} {ops : List Int} (h : Sees B gs hn C s m p ops) (e : p = q) : Sees B gs hn C s m q ops := e ▸ h
theorem unit_used {s : RS} (hs : ¬ (s.unit B).stop.isSome = true) : (s.unit B).used = s.used + 1 := by
 unfold RS.unit at *
 split at hs
 ·simp [RS.fail] at hs
 ·rename_i h; rw [if_neg h]
theorem step_setAt {C : DC} {s : RS} {m : MS} {p : Nat} {n : ByteArray} {k : Nat} {x v : Int} (h : Sees B gs hn C s m p ([] ++ [((offOf gs k : Nat) : Int) + x] ++ [v])) (hc : W[p]? = some 9)
  (hk : gs.findIdx? (fun y => eqB y.1 n) = some k) (h0 : 0 <= x) (hx : x < (gs.getD k default).2) :
  ∃ m', Rch W B m m' /\ Sees B gs hn C (s.put n x v) m' (p + 1) [] := by
 obtain ⟨t1, t2⟩ := sees_top h
 have t3 : m.stack.dropLast.getLast? = some (((offOf gs k : Nat) : Int) + x) /\ m.stack.dropLast.dropLast = C.S ++ (s.here.map (·.2) ++ C.extra) ++ [] := by
  rw [t2, <- List.append_assoc]
  exact ⟨last_snoc _ _, drop_snoc _ _⟩
 have hkl : k < s.glob.length := by have := findIdx_lt hk; rw [<- h.shape] at this; simpa [shapeOf] using this
 have hlen : (s.glob.getD k default).vals.length = (gs.getD k default).2 := by rw [<- shape_get _ _ hkl, h.shape]
 have es : s.put n x v = { s with glob := s.glob.set k ⟨(s.glob.getD k default).name, (s.glob.getD k default).vals.set x.toNat v⟩ } := by
  unfold RS.put; rw [globIx_shape, h.shape, hk]
 obtain ⟨f1, f2⟩ := flat_set s.glob hkl (i := x.toNat) (by omega) v
 have hlt : offOf gs k + x.toNat < m.places.length := by
  have := flat_get s.glob hkl (i := x.toNat) (by omega)
  rw [h.shape] at this
  rw [h.places]
  exact (List.getElem?_eq_some_iff.1 this).1
 have hto : (((offOf gs k : Nat) : Int) + x).toNat = offOf gs k + x.toNat := by omega
 have hst : stepM W B m = some { m with pc := p + 1, stack := C.S ++ (s.here.map (·.2) ++ C.extra) ++ [], places := m.places.set (offOf gs k + x.toNat) v } := by
  unfold stepM
  rw [h.pc, hc]
  simp only [Option.bind_some, t1, t3.1, t3.2, hto]
  rw [if_pos (by omega)]
 refine ⟨_, Rch.one h.over h.small hst, ?_⟩
 rw [es]
 refine ⟨rfl, rfl, h.base, h.calls, ?_, h.input, h.out, h.used, h.over, h.stop, h.lid, h.outs, ?_, h.names, Nat.zero_le _, h.deep⟩
 ·show m.places.set _ v = flat _
  rw [f1, h.places, h.shape]
 ·show shapeOf _ = gs
  rw [f2, h.shape]
theorem sim_loop {test : RS -> Int × RS} {body : RS -> RS} {C : DC} {p lc lb : Nat} (hd : W[p]? = some 1)
  (htest : ∀ s m, Sees B gs hn C s m (p + 1) [] -> Out W B m (test s).2 (fun m' => Sees B gs hn C (test s).2 m' (p + 1 + lc) ([] ++ [(test s).1])))
  (hbody : ∀ s m, Sees B gs hn C s m (p + 1 + lc + 2) [] -> Out W B m (body s) (fun m' => Sees B gs hn C (body s) m' (p + 1 + lc + 2 + lb) []))
  (hun : CodeAt W (p + 1 + lc) [23, p + 1 + lc + 2 + lb + 2]) (hj : CodeAt W (p + 1 + lc + 2 + lb) [22, p])
  (gt : ∀ s, s.used <= (test s).2.used) (gb : ∀ s, s.used <= (body s).used) :
  ∀ (k : Nat) (s : RS) (m : MS), B + 1 < s.used + k -> Sees B gs hn C s m p [] -> Out W B m (loopR B test body k s) (fun m' => Sees B gs hn C (loopR B test body k s) m' (p + 1 + lc + 2 + lb + 2) [])
 | 0, s, m, hk, h => by have := h.lid; omega
 | k + 1, s, m, hk, h => by
  rw [loopR]
  have h1 := step_unit h hd
  by_cases hs : (s.unit B).stop.isSome = true
  ·rw [if_pos hs]; exact h1.stopped hs
  rw [if_neg hs]
  refine h1.bind hs fun m1 h1 => ?_
  have hu := unit_used hs
  have g1 := gt (s.unit B)
  generalize s.unit B = s1 at *
  have h2 := htest s1 m1 h1
  by_cases hs2 : (test s1).2.stop.isSome = true
  ·rw [if_pos hs2]; exact h2.stopped hs2
  rw [if_neg hs2]
  refine h2.bind hs2 fun m2 h2 => ?_
  generalize (test s1).2 = s2 at *
  generalize (test s1).1 = v at *
  have h3 := step_unless h2 hun
  by_cases hv : v = 0
  ·rw [if_pos hv] at h3 ⊢
   exact Out.now h2.stop _ h3 h2.goes
  rw [if_neg hv] at h3 ⊢
  refine Out.after h3 ?_
  have h4 := hbody s2 _ (h2.goes (p' := p + 1 + lc + 2) (ops' := []))
  by_cases hs3 : (body s2).stop.isSome = true
  ·rw [if_pos hs3]; exact h4.stopped hs3
  rw [if_neg hs3]
  refine h4.bind hs3 fun m4 h4 => ?_
  have g2 := gb s2
  have h5 := step_jump h4 hj
  refine Out.after h5 ?_
  exact sim_loop hd htest hbody hun hj gt gb k _ _ (by omega) h4.goes
mutual
theorem simSt (hcall : CallOk W B E gs hn okC call d) (hbig : (gs.map (·.2)).sum <= 1000000) (hg : Grows call) : ∀ (t : St) (p : Nat) (C : DC) (s : RS) (m : MS), okSt E gs hn okC t -> C.calls.length = d -> CodeAt W p (cSt E p t) -> Sees B gs hn C s m p [] ->
  Out W B m (runSt B call t s) (fun m' => Sees B gs hn C (runSt B call t s) m' (p + (cSt E p t).length) [])
 | .nil, p, C, s, m, ho, _, _, _ => by rw [okSt] at ho; exact ho.elim
 | .assign n q e, p, C, s, m, ho, hd, hc, h => by
  rw [okSt] at ho
  rw [cSt] at hc ⊢
  rw [runSt]
  have h1 := step_unit h hc.left.left.one
  by_cases hs : (s.unit B).stop.isSome = true
  ·rw [if_pos hs]; exact h1.stopped hs
  rw [if_neg hs]
  refine h1.bind hs fun m1 h1 => ?_
  have h2 := simEx hcall hbig e (p + 1) C (s.unit B) m1 [] ho.2 hd hc.left.right h1
  by_cases hs2 : (evalEx call e (s.unit B)).2.stop.isSome = true
  ·rw [if_pos hs2]; exact h2.stopped hs2
  rw [if_neg hs2]
  refine h2.bind hs2 fun m2 h2 => ?_
  have c3 := hc.right
  rw [List.length_append, <- Nat.add_assoc] at c3
  obtain ⟨m3, r3, h3⟩ := sim_set h2 ho.1 c3
  refine Out.now h3.stop m3 r3 ?_
  rw [List.length_append, List.length_append, <- Nat.add_assoc, <- Nat.add_assoc]
  exact h3
 | .put n q i e, p, C, s, m, ho, hd, hc, h => by
  rw [okSt] at ho
  rw [cSt] at hc ⊢
  rw [runSt]
  obtain ⟨⟨k, hk, hE⟩, hoi, hoe⟩ := ho
  have h1 := step_unit h hc.left.left.left.one
  by_cases hs : (s.unit B).stop.isSome = true
  ·rw [if_pos hs]; exact h1.stopped hs
  rw [if_neg hs]
  refine h1.bind hs fun m1 h1 => ?_
  generalize s.unit B = s1 at *
  have h2 := simEx hcall hbig i (p + 1) C s1 m1 [] hoi hd hc.left.left.right.left h1
  by_cases hs2 : (evalEx call i s1).2.stop.isSome = true
  ·rw [if_pos hs2]; exact h2.stopped hs2
  rw [if_neg hs2]
  refine h2.bind hs2 fun m2 h2 => ?_
  generalize (evalEx call i s1).2 = s2 at *
  generalize (evalEx call i s1).1 = x at *
  have hkl : k < s2.glob.length := by have := findIdx_lt hk; rw [<- h2.shape] at this; simpa [shapeOf] using this
  have hrow : s2.row n = (s2.glob.getD k default).vals := by unfold RS.row; rw [globIx_shape, h2.shape, hk]
  have hlen : (s2.glob.getD k default).vals.length = (gs.getD k default).2 := by rw [<- shape_get _ _ hkl, h2.shape]
  have hst := step_find h2 hc.left.left.right.right
  rw [hE] at hst
  rw [hrow]
  have hkg := off_le gs (findIdx_lt hk)
  by_cases hr : inRow (s2.glob.getD k default).vals x = true
  ·rw [if_pos hr]
   unfold inRow at hr
   rw [decide_eq_true_iff, hlen] at hr
   rw [if_neg (by simp only; omega)] at hst
   have hw : wrapV ((offOf gs k : Nat) + x) = (offOf gs k : Nat) + x := wrapV_id (by omega) (by omega)
   simp only [hw] at hst
   refine Out.after hst ?_
   have c4 := hc.left.right
   have c4 := c4.at (q := p + 1 + (cEx E (p + 1) i).length + 3) (by simp; omega)
   have h3 := simEx hcall hbig e (p + 1 + (cEx E (p + 1) i).length + 3) C s2 _ ([] ++ [((offOf gs k : Nat) : Int) + x]) hoe hd c4 h2.goes
   by_cases hs3 : (evalEx call e s2).2.stop.isSome = true
   ·rw [if_pos hs3]; exact h3.stopped hs3
   rw [if_neg hs3]
   refine h3.bind hs3 fun m3 h3 => ?_
   have c5 := (hc.right.at (q := p + 1 + (cEx E (p + 1) i).length + 3 + (cEx E (p + 1 + (cEx E (p + 1) i).length + 3) e).length) (by simp; omega)).one
   obtain ⟨m4, r4, h4⟩ := step_setAt h3 c5 hk (by omega) (by omega)
   refine Out.now h4.stop m4 r4 ?_
   exact h4.at (by simp; omega)
  ·rw [if_neg hr]
   unfold inRow at hr
   rw [decide_eq_true_iff, hlen] at hr
   rw [if_pos (by simp only; omega)] at hst
   exact Out.dies (c := 9) rfl _ hst rfl h2.out h2.used
 | .proc n q args, p, C, s, m, ho, hd, hc, h => by
  rw [okSt] at ho
  rw [cSt] at hc ⊢
  rw [runSt]
  have h1 := step_unit h hc.left.one
  by_cases hs : (s.unit B).stop.isSome = true
  ·rw [if_pos hs]; exact h1.stopped hs
  rw [if_neg hs]
  refine h1.bind hs fun m1 h1 => ?_
  generalize s.unit B = s1 at *
  have h2 := simExs hcall hbig args (p + 1) C s1 m1 [] ho.2 hd hc.right.left h1
  by_cases hs2 : (evalExs call args s1).2.stop.isSome = true
  ·rw [if_pos hs2]; exact h2.stopped hs2
  rw [if_neg hs2]
  refine h2.bind hs2 fun m2 h2 => ?_
  have hl := h2.2
  have hr := hc.right.right
  rw [<- hl] at hr
  have := hcall false n (evalExs call args s1).1 C (evalExs call args s1).2 m2 _ [] (by rw [hl]; exact ho.1) hd hr h2.1
  refine this.mono fun m' hm' => ?_
  rw [List.length_append, List.length_append, <- Nat.add_assoc, <- Nat.add_assoc]
  exact hm'
 | .ite c t f, p, C, s, m, ho, hd, hc, h => by
  rw [okSt] at ho
  rw [cSt] at hc ⊢
  rw [runSt]
  have c0 : W[p]? = some 1 := by split at hc <;> exact hc.left.one
  have c1 : CodeAt W (p + 1) (cEx E (p + 1) c) := by
   split at hc
   ·exact hc.right.left.left
   ·exact hc.right.left.left.left.left
  have h1 := step_unit h c0
  by_cases hs : (s.unit B).stop.isSome = true
  ·rw [if_pos hs]; exact h1.stopped hs
  rw [if_neg hs]
  refine h1.bind hs fun m1 h1 => ?_
  generalize s.unit B = s1 at *
  have h2 := simEx hcall hbig c (p + 1) C s1 m1 [] ho.1 hd c1 h1
  by_cases hs2 : (evalEx call c s1).2.stop.isSome = true
  ·rw [if_pos hs2]; exact h2.stopped hs2
  rw [if_neg hs2]
  refine h2.bind hs2 fun m2 h2 => ?_
  generalize (evalEx call c s1).2 = s2 at *
  generalize (evalEx call c s1).1 = v at *
  by_cases hf : f.isNil = true
  ·rw [if_pos hf] at hc ⊢
   have hu := step_unless h2 hc.right.left.right
   have hT : CodeAt W (p + 1 + (cEx E (p + 1) c).length + 2) (cSt E (p + 1 + (cEx E (p + 1) c).length + 2) t) := by
    have := hc.right.right
    rw [List.length_append, <- Nat.add_assoc] at this
    exact this
   have eL : p + ([1] ++ (cEx E (p + 1) c ++ [23, p + 1 + (cEx E (p + 1) c).length + 2 + (cSt E (p + 1 + (cEx E (p + 1) c).length + 2) t).length] ++ cSt E (p + 1 + (cEx E (p + 1) c).length + 2) t)).length = p + 1 + (cEx E (p + 1) c).length + 2 + (cSt E (p + 1 + (cEx E (p + 1) c).length + 2) t).length := by simp; omega
   rw [eL]
   by_cases hv : v = 0
   ·rw [if_pos hv] at hu
    rw [if_neg (by simpa using hv)]
    have ef : runSt B call f s2 = s2 := by
     cases f <;> first | (simp [St.isNil] at hf; done) | rw [runSt]
    rw [ef]
    exact Out.now h2.stop _ hu h2.goes
   ·rw [if_neg hv] at hu
    rw [if_pos hv]
    exact Out.after hu (simSt hcall hbig hg t _ C s2 _ ho.2.1 hd hT h2.goes)
  ·rw [if_neg hf] at hc ⊢
   have hu := step_unless h2 hc.right.left.left.left.right
   have hT : CodeAt W (p + 1 + (cEx E (p + 1) c).length + 2) (cSt E (p + 1 + (cEx E (p + 1) c).length + 2) t) := by
    have := hc.right.left.left.right
    rw [List.length_append, <- Nat.add_assoc] at this
    exact this
   have hJ := hc.right.left.right
   have hF := hc.right.right
   have hJ := hJ.at (q := p + 1 + (cEx E (p + 1) c).length + 2 + (cSt E (p + 1 + (cEx E (p + 1) c).length + 2) t).length) (by simp; omega)
   have eL : ∀ z, p + [1].length + (cEx E (p + 1) c ++ [23, p + 1 + (cEx E (p + 1) c).length + 2 + (cSt E (p + 1 + (cEx E (p + 1) c).length + 2) t).length + 2] ++ cSt E (p + 1 + (cEx E (p + 1) c).length + 2) t ++ [22, z]).length = p + 1 + (cEx E (p + 1) c).length + 2 + (cSt E (p + 1 + (cEx E (p + 1) c).length + 2) t).length + 2 := by intro z; simp; omega
   rw [eL] at hF
   have eW : ∀ z, p + ([1] ++ (cEx E (p + 1) c ++ [23, p + 1 + (cEx E (p + 1) c).length + 2 + (cSt E (p + 1 + (cEx E (p + 1) c).length + 2) t).length + 2] ++ cSt E (p + 1 + (cEx E (p + 1) c).length + 2) t ++ [22, z] ++ cSt E (p + 1 + (cEx E (p + 1) c).length + 2 + (cSt E (p + 1 + (cEx E (p + 1) c).length + 2) t).length + 2) f)).length = p + 1 + (cEx E (p + 1) c).length + 2 + (cSt E (p + 1 + (cEx E (p + 1) c).length + 2) t).length + 2 + (cSt E (p + 1 + (cEx E (p + 1) c).length + 2 + (cSt E (p + 1 + (cEx E (p + 1) c).length + 2) t).length + 2) f).length := by intro z; simp; omega
   rw [eW]
   by_cases hv : v = 0
   ·rw [if_pos hv] at hu
    rw [if_neg (by simpa using hv)]
    exact Out.after hu (simSt hcall hbig hg f _ C s2 _ (ho.2.2 (by simpa using hf)) hd hF h2.goes)
   ·rw [if_neg hv] at hu
    rw [if_pos hv]
    refine Out.after hu ?_
    have h3 := simSt hcall hbig hg t _ C s2 _ ho.2.1 hd hT h2.goes
    by_cases hs3 : (runSt B call t s2).stop.isSome = true
    ·exact h3.stopped hs3
    ·refine h3.bind hs3 fun m3 h3 => ?_
     exact Out.now h3.stop _ (step_jump h3 hJ) h3.goes
 | .loop c b, p, C, s, m, ho, hd, hc, h => by
  rw [okSt] at ho
  rw [cSt] at hc ⊢
  rw [runSt]
  have c1 := hc.right.left.left.left
  have cU := hc.right.left.left.right
  have cB := hc.right.left.right
  have cJ := hc.right.right
  have cB := cB.at (q := p + 1 + (cEx E (p + 1) c).length + 2) (by simp; omega)
  have cJ := cJ.at (q := p + 1 + (cEx E (p + 1) c).length + 2 + (cSt E (p + 1 + (cEx E (p + 1) c).length + 2) b).length) (by simp; omega)
  rw [show p + (([1] : List Nat) ++ (cEx E (p + 1) c ++ [23, p + 1 + (cEx E (p + 1) c).length + 2 + (cSt E (p + 1 + (cEx E (p + 1) c).length + 2) b).length + 2] ++ cSt E (p + 1 + (cEx E (p + 1) c).length + 2) b ++ [22, p])).length = p + 1 + (cEx E (p + 1) c).length + 2 + (cSt E (p + 1 + (cEx E (p + 1) c).length + 2) b).length + 2 from by simp; omega]
  exact sim_loop hc.left.one (fun s1 m1 h1 => simEx hcall hbig c (p + 1) C s1 m1 [] ho.1 hd c1 h1) (fun s1 m1 h1 => simSt hcall hbig hg b _ C s1 m1 ho.2 hd cB h1) cU cJ (used_ex hg c) (used_st hg b) _ s m (by omega) h
 | .block l, p, C, s, m, ho, hd, hc, h => by
  rw [okSt] at ho
  rw [cSt] at hc ⊢
  rw [runSt]
  exact simSts hcall hbig hg l p C s m ho hd hc h
 | .write e, p, C, s, m, ho, hd, hc, h => by
  rw [okSt] at ho
  rw [cSt] at hc ⊢
  rw [runSt]
  have h1 := step_unit h hc.left.left.one
  by_cases hs : (s.unit B).stop.isSome = true
  ·rw [if_pos hs]; exact h1.stopped hs
  rw [if_neg hs]
  refine h1.bind hs fun m1 h1 => ?_
  have h2 := simEx hcall hbig e (p + 1) C (s.unit B) m1 [] ho hd hc.left.right h1
  by_cases hs2 : (evalEx call e (s.unit B)).2.stop.isSome = true
  ·rw [if_pos hs2]; exact h2.stopped hs2
  rw [if_neg hs2]
  refine h2.bind hs2 fun m2 h2 => ?_
  generalize (evalEx call e (s.unit B)).2 = s2 at *
  generalize (evalEx call e (s.unit B)).1 = v at *
  have c3 := (hc.right.at (q := p + 1 + (cEx E (p + 1) e).length) (by simp; omega)).one
  obtain ⟨t1, t2⟩ := sees_top h2
  have hst : stepM W B m2 = some (if m2.out.length = 60 then ({ m2 with pc := m2.pc + 1, stack := C.S ++ (s2.here.map (·.2) ++ C.extra) ++ [] } : MS).end_ 12 else { m2 with pc := m2.pc + 1, stack := C.S ++ (s2.here.map (·.2) ++ C.extra) ++ [], out := m2.out ++ [v] }) := by
   unfold stepM
   rw [h2.pc, c3]
   simp only [t1, Option.map_some, t2]
  have ho2 := h2.outs
  by_cases h60 : 60 <= s2.out.length
  ·rw [if_pos h60]
   rw [if_pos (by rw [h2.out]; omega)] at hst
   exact Out.dies (c := 12) rfl _ (Rch.one h2.over h2.small hst) rfl h2.out h2.used
  ·rw [if_neg h60]
   rw [if_neg (by rw [h2.out]; omega)] at hst
   refine Out.now h2.stop _ (Rch.one h2.over h2.small hst) ?_
   have h9 : Sees B gs hn C { s2 with out := s2.out ++ [v] } { m2 with pc := m2.pc + 1, stack := C.S ++ (s2.here.map (·.2) ++ C.extra) ++ [], out := m2.out ++ [v] } (p + 1 + (cEx E (p + 1) e).length + 1) [] :=
    ⟨by show m2.pc + 1 = _; rw [h2.pc], rfl, h2.base, h2.calls, h2.places, h2.input, by show m2.out ++ [v] = s2.out ++ [v]; rw [h2.out], h2.used, h2.over, h2.stop, h2.lid, by simp; omega, h2.shape, h2.names, Nat.zero_le _, h2.deep⟩
   exact h9.at (by simp; omega)
 | .read n q, p, C, s, m, ho, hd, hc, h => by
  rw [okSt] at ho
  rw [cSt] at hc ⊢
  rw [runSt]
  have h1 := step_unit h hc.left.left.one
  by_cases hs : (s.unit B).stop.isSome = true
  ·rw [if_pos hs]; exact h1.stopped hs
  rw [if_neg hs]
  refine h1.bind hs fun m1 h1 => ?_
  generalize s.unit B = s1 at *
  have c2 : W[p + 1]? = some 29 := hc.left.right.one
  have hst : stepM W B m1 = some (match m1.input with
    | [] => ({ m1 with pc := m1.pc + 1 } : MS).end_ 11
    | v :: r => { m1 with pc := m1.pc + 1, stack := m1.stack ++ [v], input := r }) := by
   unfold stepM
   rw [h1.pc, c2]
   rfl
  rw [h1.input] at hst
  cases hi : s1.input with
  | nil =>
   rw [hi] at hst
   exact Out.dies (c := 11) rfl _ (Rch.one h1.over h1.small hst) rfl h1.out h1.used
  | cons v r =>
   rw [hi] at hst
   have h2 : Sees B gs hn C { s1 with input := r } { m1 with pc := m1.pc + 1, stack := m1.stack ++ [v], input := r } (p + 1 + 1) ([] ++ [v]) :=
    ⟨by show m1.pc + 1 = _; rw [h1.pc], by show m1.stack ++ [v] = _; rw [h1.stack]; simp, h1.base, h1.calls, h1.places, rfl, h1.out, h1.used, h1.over, h1.stop, h1.lid, h1.outs, h1.shape, h1.names, by simp, h1.deep⟩
   obtain ⟨m3, r3, h3⟩ := sim_set h2 ho hc.right
   refine Out.now h3.stop m3 ((Rch.one h1.over h1.small hst).trans r3) ?_
   rw [List.length_append, List.length_append, <- Nat.add_assoc, <- Nat.add_assoc]
   exact h3
theorem simSts (hcall : CallOk W B E gs hn okC call d) (hbig : (gs.map (·.2)).sum <= 1000000) (hg : Grows call) : ∀ (l : List St) (p : Nat) (C : DC) (s : RS) (m : MS), okSts E gs hn okC l -> C.calls.length = d -> CodeAt W p (cSts E p l) -> Sees B gs hn C s m p [] ->
  Out W B m (runSts B call l s) (fun m' => Sees B gs hn C (runSts B call l s) m' (p + (cSts E p l).length) [])
 | [], p, C, s, m, _, _, _, h => by
  rw [cSts, runSts]
  exact Out.now h.stop m (.refl _) h
 | x :: l, p, C, s, m, ho, hd, hc, h => by
  rw [okSts] at ho
  rw [cSts] at hc ⊢
  rw [runSts]
  have h1 := simSt hcall hbig hg x p C s m ho.1 hd hc.left h
  by_cases hs : (runSt B call x s).stop.isSome = true
  ·rw [if_pos hs]; exact h1.stopped hs
  ·rw [if_neg hs]
   refine h1.bind hs fun m1 h1 => ?_
   rw [List.length_append, <- Nat.add_assoc]
   exact simSts hcall hbig hg l _ C _ m1 ho.2 hd hc.right h1
end
end
end Go.Proofs.YtklobognaldjpaaGreat
