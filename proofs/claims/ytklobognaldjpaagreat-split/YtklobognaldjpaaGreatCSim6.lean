/- Plain: the machine and calls. -/
import Derived.Test.YtklobognaldjpaaGreatCSim5
namespace Go.Proofs.YtklobognaldjpaaGreat
def hnOf (f : Bool) (r : Ro) : List ByteArray := r.cells ++ if r.own f then [r.name.1] else []
def exOf (f : Bool) (r : Ro) : List Int := if f && !r.own f then [0] else []
theorem enter_names (f : Bool) (r : Ro) (vs : List Int) : (r.enter f vs).map (·.1) = hnOf f r := by
 unfold Ro.enter hnOf
 rw [List.map_append, List.map_map]
 congr 1
 ·have : ((fun x : ByteArray × Int => x.1) ∘ fun x : ByteArray × Nat => (x.1, vs.getD x.2 0)) = fun x => x.1 := rfl
  rw [this]
  exact List.zipIdx_map_fst 0 r.cells
 ·split <;> rfl
theorem getD_vals (vs : List Int) : ∀ (k : Nat) (l : List ByteArray), (l.zipIdx k).map (fun x => vs.getD x.2 0) = ((vs.drop k) ++ List.replicate l.length 0).take l.length
 | k, [] => by simp
 | k, a :: l => by
  rw [List.zipIdx_cons, List.map_cons, getD_vals vs (k + 1) l]
  by_cases h : k < vs.length
  ·rw [List.drop_eq_getElem_cons h, List.cons_append, List.length_cons, List.take_succ_cons]
   congr 1
   ·simp [List.getD, h]
   ·rw [List.replicate_succ', <- List.append_assoc]
    exact (List.take_append_of_le_length (by simp)).symm
  ·rw [List.drop_of_length_le (by omega), List.drop_of_length_le (by omega), List.nil_append, List.nil_append, List.length_cons]
   simp [List.getD, List.getElem?_eq_none (show vs.length <= k by omega), List.replicate_succ]
theorem cells_len (r : Ro) : r.cells.length = r.params.length + r.locals.length := by unfold Ro.cells; simp
theorem enter_vals (f : Bool) (r : Ro) (vs : List Int) (h : vs.length = r.params.length) : (r.enter f vs).map (·.2) ++ exOf f r = vs ++ List.replicate (r.locals.length + if f then 1 else 0) 0 := by
 unfold Ro.enter exOf
 have e1 : (r.cells.zipIdx.map fun x => (x.1, vs.getD x.2 0)).map (fun x : ByteArray × Int => x.2) = vs ++ List.replicate r.locals.length 0 := by
  rw [List.map_map]
  show r.cells.zipIdx.map (fun x => vs.getD x.2 0) = _
  rw [getD_vals vs 0 r.cells, List.drop_zero, cells_len, List.take_append, List.take_of_length_le (by omega), List.take_replicate]
  congr 2
  omega
 rw [List.map_append, e1]
 cases f
 ·have : r.own false = false := rfl
  simp [this]
 ·cases r.own true <;> simp [List.replicate_succ']
def roCode (f : Bool) (g : ByteArray -> Nat × Nat) (r : Ro) (p : Nat) : List Nat :=
 if f then [1] ++ [25, r.locals.length + 1] ++ cSts (ceOf f g r) (p + 3) r.body ++ [27, r.cells.length]
 else [25, r.locals.length] ++ cSts (ceOf f g r) (p + 2) r.body ++ [26]
section
variable (W : List Nat) (G : List Gl) (gs : List (ByteArray × Nat)) (pcOf : ByteArray -> Nat)
def okCE (E : CE) (f : Bool) (n : ByteArray) (many : Nat) : Prop := ∃ r, routineOf G n = some (f, r) /\ r.params.length = many /\ (E.g n).1 = pcOf n
def Table : Prop := ∀ n f r, routineOf G n = some (f, r) -> ∃ g, CodeAt W (pcOf n) (roCode f g r (pcOf n)) /\ okSts (ceOf f g r) gs (hnOf f r) (okCE G pcOf (ceOf f g r)) r.body
end
section
variable {W : List Nat} {B : Nat} {G : List Gl} {gs : List (ByteArray × Nat)} {pcOf : ByteArray -> Nat}
theorem result_at {f : Bool} {r : Ro} {h : List (ByteArray × Int)} (hf : f = true) (hl : h.length = (hnOf f r).length) : (h.map (·.2) ++ exOf f r)[r.cells.length]? = some (r.result f h) := by
 subst hf
 unfold hnOf at hl
 unfold exOf Ro.result
 cases ho : r.own true
 ·rw [ho] at hl
  simp at hl
  rw [List.getElem?_append_right (by simp; omega)]
  simp [hl]
 ·rw [ho] at hl
  simp at hl
  rw [List.getElem?_append_left (by simp; omega)]
  simp [List.getD, show r.cells.length < h.length by omega]
theorem deep_next {a b c p l : Nat} (h : a + b <= (c + 1) * 10000 + p) (hp : p < l) (hl : l <= 5000) : a + (b + 0) <= (c + 1 + 1) * 10000 := by
 rw [Nat.succ_mul (c + 1) 10000]
 generalize (c + 1) * 10000 = K at *
 omega
theorem deep_more {a b b2 c p l x : Nat} (h : a + b <= (c + 1) * 10000 + p) (hp : p < l) (hl : l <= 5000) (h1 : b + b2 <= 700) (h2 : x <= b + b2 + 2) : a + x <= (c + 1 + 1) * 10000 := by
 rw [Nat.succ_mul (c + 1) 10000]
 generalize (c + 1) * 10000 = K at *
 omega
theorem sim_call (hbig : (gs.map (·.2)).sum <= 1000000) (hWl : W.length <= 5000) (hL : ∀ n f r, routineOf G n = some (f, r) -> r.params.length + r.locals.length <= 700) (hT : Table W G gs pcOf) : ∀ (k d : Nat) (E : CE) (hn : List ByteArray), d + k = 30 -> CallOk W B E gs hn (okCE G pcOf E) (callR B G k) d
 | 0, d, E, hn, hk, f, n, vs, C, s, m, p, ops, ho, hd, hc, h => by
  obtain ⟨c0, c1, c2⟩ := hc.three
  have hst : stepM W B m = some (({ m with pc := p + 3 } : MS).end_ 13) := by
   unfold stepM
   rw [h.pc, c0]
   simp only [c1, c2, Option.bind_some]
   rw [if_pos (by rw [h.calls, hd]; omega)]
  rw [callR]
  exact Out.dies (c := 13) rfl _ (Rch.one h.over h.small hst) rfl h.out h.used
 | k + 1, d, E, hn, hk, f, n, vs, C, s, m, p, ops, ho, hd, hc, h => by
  obtain ⟨r, hr, hlen, hE⟩ := ho
  obtain ⟨g, hcode, hok⟩ := hT n f r hr
  obtain ⟨c0, c1, c2⟩ := hc.three
  have hstk : m.stack = (C.S ++ (s.here.map (·.2) ++ C.extra) ++ ops) ++ vs := by rw [h.stack]; simp
  generalize hS : C.S ++ (s.here.map (·.2) ++ C.extra) ++ ops = S' at *
  have hst : stepM W B m = some { m with pc := pcOf n, calls := C.calls ++ [(p + 3, C.S.length)], base := S'.length } := by
   unfold stepM
   rw [h.pc, c0]
   simp only [c1, c2, Option.bind_some]
   rw [if_neg (by rw [h.calls, hd]; omega), if_pos (by rw [hstk]; simp), h.calls, h.base, hE]
   congr 2
   rw [hstk]; simp
  have hpw : p < W.length := (List.getElem?_eq_some_iff.1 c0).1
  have hSl : S'.length + r.params.length <= (C.calls.length + 1) * 10000 + p := by
   have h1 := h.lim
   have h2 := h.deep
   have h3 : s.here.length = hn.length := by rw [<- h.names, List.length_map]
   rw [List.length_append] at h1
   rw [<- hS]
   simp only [List.length_append, List.length_map]
   omega
  have hrl := hL n f r hr
  have hr0 := Rch.one h.over h.small hst
  generalize hm1 : ({ m with pc := pcOf n, calls := C.calls ++ [(p + 3, C.S.length)], base := S'.length } : MS) = m1 at *
  have hz : ((r.params.map (·.1)).zip vs).map (·.2) = vs := by rw [List.map_snd_zip]; simp; omega
  have h1 : Sees B gs ((r.params.map (·.1))) ⟨S', [], C.calls ++ [(p + 3, C.S.length)]⟩ { s with here := (r.params.map (·.1)).zip vs } m1 (pcOf n) [] := by
   rw [<- hm1]
   refine ⟨rfl, ?_, rfl, rfl, h.places, h.input, h.out, h.used, h.over, h.stop, h.lid, h.outs, h.shape, ?_, Nat.zero_le _, ?_⟩
   ·show m.stack = S' ++ (((r.params.map (·.1)).zip vs).map (·.2) ++ []) ++ []
    rw [hz, hstk]; simp
   ·show ((r.params.map (·.1)).zip vs).map (·.1) = _
    rw [List.map_fst_zip]; simp; omega
   ·have e1 : (r.params.map (·.1)).length = r.params.length := List.length_map _
    have e2 : (C.calls ++ [(p + 3, C.S.length)]).length = C.calls.length + 1 := by simp
    show S'.length + ((r.params.map (·.1)).length + ([] : List Int).length) <= ((C.calls ++ [(p + 3, C.S.length)]).length + 1) * 10000
    rw [e1, e2, List.length_nil]
    exact deep_next hSl hpw hWl
  rw [callR, hr]
  refine Out.after hr0 ?_
  have hunit : ∀ (Q : MS -> Prop) (s' : RS), (f && (s.unit B).stop.isSome) = false -> (∀ m2, Sees B gs ((r.params.map (·.1))) ⟨S', [], C.calls ++ [(p + 3, C.S.length)]⟩ { (if f then s.unit B else s) with here := (r.params.map (·.1)).zip vs } m2 (pcOf n + if f then 1 else 0) [] -> Out W B m2 s' Q) -> Out W B m1 s' Q := by
   intro Q s' hf hk2
   cases f with
   | false => exact hk2 m1 h1
   | true =>
    have h2 := step_unit h1 (by unfold roCode at hcode; rw [if_pos rfl] at hcode; exact hcode.left.left.left.one)
    have e : ({ s with here := (r.params.map (·.1)).zip vs } : RS).unit B = { s.unit B with here := (r.params.map (·.1)).zip vs } := by
     unfold RS.unit; simp only; split <;> rfl
    rw [e] at h2
    exact h2.bind (by simpa using hf) fun m2 h3 => hk2 m2 h3
  cases hfs : (f && (s.unit B).stop.isSome) with
  | true =>
   rw [if_pos rfl]
   have hf : f = true := by cases f <;> simp_all
   subst hf
   have h2 := step_unit h1 (by unfold roCode at hcode; rw [if_pos rfl] at hcode; exact hcode.left.left.left.one)
   have e : ({ s with here := (r.params.map (·.1)).zip vs } : RS).unit B = { s.unit B with here := (r.params.map (·.1)).zip vs } := by
    unfold RS.unit; simp only; split <;> rfl
   rw [e] at h2
   have hs : (s.unit B).stop.isSome = true := by simpa using hfs
   refine ⟨fun h0 => ?_, fun c hc2 => ?_⟩
   ·have : (s.unit B).stop = none := h0
    rw [this] at hs; cases hs
   ·exact h2.2 c hc2
  | false =>
   rw [if_neg (by simp)]
   refine hunit _ _ hfs fun m2 h2 => ?_
   simp only
   generalize hs1 : (if f = true then s.unit B else s) = s1 at *
   have hh : s1.here = s.here := by rw [<- hs1]; split
                                    ·unfold RS.unit; split <;> rfl
                                    ·rfl
   have cEnter : CodeAt W (pcOf n + if f then 1 else 0) [25, r.locals.length + if f then 1 else 0] := by
    unfold roCode at hcode
    cases f
    ·rw [if_neg (by simp)] at hcode; exact hcode.left.left
    ·rw [if_pos rfl] at hcode; exact hcode.left.left.right
   have cBody : CodeAt W (pcOf n + (if f then 1 else 0) + 2) (cSts (ceOf f g r) (pcOf n + (if f then 1 else 0) + 2) r.body) := by
    unfold roCode at hcode
    cases f
    ·rw [if_neg (by simp)] at hcode; exact hcode.left.right
    ·rw [if_pos rfl] at hcode; exact hcode.left.right
   have cLeave : CodeAt W (pcOf n + (if f then 1 else 0) + 2 + (cSts (ceOf f g r) (pcOf n + (if f then 1 else 0) + 2) r.body).length) (if f then [27, r.cells.length] else [26]) := by
    unfold roCode at hcode
    cases f
    ·rw [if_neg (by simp)] at hcode
     have := hcode.right
     rw [List.length_append, <- Nat.add_assoc] at this
     exact this
    ·rw [if_pos rfl] at hcode
     have := hcode.right
     rw [List.length_append, <- Nat.add_assoc] at this
     exact this
   obtain ⟨e0, e1⟩ := cEnter.two
   have hst2 : stepM W B m2 = some { m2 with pc := pcOf n + (if f then 1 else 0) + 2, stack := m2.stack ++ List.replicate (r.locals.length + if f then 1 else 0) 0 } := by
    unfold stepM
    rw [h2.pc, e0]
    simp only [e1, Option.map_some]
   refine Out.after (Rch.one h2.over h2.small hst2) ?_
   have h3 : Sees B gs (hnOf f r) ⟨S', exOf f r, C.calls ++ [(p + 3, C.S.length)]⟩ { s1 with here := r.enter f vs } { m2 with pc := pcOf n + (if f then 1 else 0) + 2, stack := m2.stack ++ List.replicate (r.locals.length + if f then 1 else 0) 0 } (pcOf n + (if f then 1 else 0) + 2) [] := by
    refine ⟨rfl, ?_, h2.base, h2.calls, h2.places, h2.input, h2.out, h2.used, h2.over, h2.stop, h2.lid, h2.outs, h2.shape, enter_names f r vs, Nat.zero_le _, ?_⟩
    rotate_left
    ·show S'.length + ((hnOf f r).length + (exOf f r).length) <= ((C.calls ++ [(p + 3, C.S.length)]).length + 1) * 10000
     have e1 : (hnOf f r).length + (exOf f r).length <= r.params.length + r.locals.length + 2 := by
      unfold hnOf exOf; rw [List.length_append, cells_len]; split <;> split <;> simp
     have e2 : (C.calls ++ [(p + 3, C.S.length)]).length = C.calls.length + 1 := by simp
     rw [e2]
     exact deep_more hSl hpw hWl hrl e1
    show m2.stack ++ _ = S' ++ ((r.enter f vs).map (·.2) ++ exOf f r) ++ []
    rw [enter_vals f r vs hlen.symm, h2.stack]
    show S' ++ (((r.params.map (·.1)).zip vs).map (·.2) ++ []) ++ [] ++ _ = _
    rw [hz]; simp
   have h4 := simSts (sim_call hbig hWl hL hT k (d + 1) (ceOf f g r) (hnOf f r) (by omega)) hbig (grows_call B G k) r.body _ ⟨S', exOf f r, C.calls ++ [(p + 3, C.S.length)]⟩ _ _ hok (by simp [hd]) cBody h3
   by_cases hs4 : (runSts B (callR B G k) r.body { s1 with here := r.enter f vs }).stop.isSome = true
   ·refine ⟨fun h0 => ?_, fun c hc2 => h4.2 c hc2⟩
    have : (runSts B (callR B G k) r.body { s1 with here := r.enter f vs }).stop = none := h0
    rw [this] at hs4; cases hs4
   ·refine h4.bind hs4 fun m4 h4 => ?_
    generalize runSts B (callR B G k) r.body { s1 with here := r.enter f vs } = s4 at *
    generalize (pcOf n + (if f then 1 else 0) + 2 + (cSts (ceOf f g r) (pcOf n + (if f then 1 else 0) + 2) r.body).length) = q4 at cLeave h4
    have hb4 : m4.base = S'.length := h4.base
    have hs4 : m4.stack = S' ++ (s4.here.map (·.2) ++ exOf f r) := by rw [h4.stack]; simp
    have hc4 : m4.calls = C.calls ++ [(p + 3, C.S.length)] := h4.calls
    have hlast : m4.calls.getLast? = some (p + 3, C.S.length) := by rw [hc4]; simp
    have hdl : m4.calls.dropLast = C.calls := by rw [hc4]; simp
    have htk : m4.stack.take m4.base = S' := by rw [hb4, hs4, List.take_left]
    have hble : m4.base <= m4.stack.length := by rw [hb4, hs4]; simp
    have hfin : ∀ v : List Int, v.length <= 1 -> Sees B gs hn C { s4 with here := s.here } { m4 with pc := p + 3, base := C.S.length, calls := C.calls, stack := S' ++ v } (p + 3) (ops ++ v) := by
     intro v hv1
     refine ⟨rfl, ?_, rfl, rfl, h4.places, h4.input, h4.out, h4.used, h4.over, h4.stop, h4.lid, h4.outs, h4.shape, h.names, by have := h.lim; rw [List.length_append] at this ⊢; omega, h.deep⟩
     show S' ++ v = C.S ++ (s.here.map (·.2) ++ C.extra) ++ (ops ++ v)
     rw [<- hS]; simp
    have hnl : s4.here.length = (hnOf f r).length := by rw [<- h4.names, List.length_map]
    cases hf : f with
    | false =>
     subst hf
     have hst4 : stepM W B m4 = some { m4 with pc := p + 3, base := C.S.length, calls := C.calls, stack := S' ++ [] } := by
      unfold stepM
      rw [h4.pc, cLeave.one]
      simp only [hlast, Option.bind_some, if_pos hble, hdl, htk, List.append_nil]
     exact Out.now h4.stop _ (Rch.one h4.over h4.small hst4) (hfin [] (by simp))
    | true =>
     have hres := result_at (r := r) hf hnl
     subst hf
     obtain ⟨l0, l1⟩ := cLeave.two
     have hv : m4.stack[m4.base + r.cells.length]? = some (r.result true s4.here) := by
      rw [hb4, hs4, List.getElem?_append_right (by omega), Nat.add_sub_cancel_left]
      exact hres
     have hst4 : stepM W B m4 = some { m4 with pc := p + 3, base := C.S.length, calls := C.calls, stack := S' ++ [r.result true s4.here] } := by
      unfold stepM
      rw [h4.pc, l0]
      simp only [l1, Option.bind_some, hv, hlast, if_pos hble, hdl, htk]
     exact Out.now h4.stop _ (Rch.one h4.over h4.small hst4) (hfin _ (by simp))
end
end Go.Proofs.YtklobognaldjpaaGreat
