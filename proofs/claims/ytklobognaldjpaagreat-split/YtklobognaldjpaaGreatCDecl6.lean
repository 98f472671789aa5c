/- What is declared: all of it. A whole program is read. -/
import Derived.Test.YtklobognaldjpaaGreatCDecl4
set_option maxRecDepth 1000000
set_option maxHeartbeats 2000000
namespace Go.Proofs.YtklobognaldjpaaGreat
open Go.RowKit
section
variable {pb tb cap : Nat} {T : List Tok} {w : World} {s : PS}
theorem len_itemsLoop (hT : Toks T) : ∀ (n : Nat) (l : List Gl) (s : PS), Good T s -> (itemsLoop T n l s).1.length + s.next <= l.length + (itemsLoop T n l s).2.next
 | 0, l, s, _ => Nat.le_refl _
 | n + 1, l, s, hg => by
  rw [itemsLoop]
  split
  ·rename_i h
   have hga := good_adv hT hg h (bs_ne _ (by simp))
   have h1 := mon_itemP hT (adv s) hga
   have h2 := len_itemsLoop hT n (l ++ [(itemP T (adv s)).1]) (itemP T (adv s)).2 h1.1
   have e : (adv s).next = s.next + 1 := rfl
   have e2 : (l ++ [(itemP T (adv s)).1]).length = l.length + 1 := by simp
   have := h1.2
   omega
  ·exact Nat.le_refl _
theorem len_itemsP (hT : Toks T) (s : PS) (hg : Good T s) : (itemsP T s).1.length + s.next <= 1 + (itemsP T s).2.next := by
 have h1 := mon_itemP hT s hg
 have h2 := len_itemsLoop hT T.length [(itemP T s).1] (itemP T s).2 h1.1
 have h3 := (mon_itemsLoop hT T.length [(itemP T s).1] (itemP T s).2 h1.1).1
 have h4 := (mon_want hT (f := bs [59]) (bs_ne _ (by simp)) h3).2
 have e2 : [(itemP T s).1].length = 1 := rfl
 have := h1.2
 show (itemsLoop T T.length [(itemP T s).1] (itemP T s).2).1.length + s.next <= 1 + (want T (bs [59]) (itemsLoop T T.length [(itemP T s).1] (itemP T s).2).2).next
 omega
theorem globalsLoop_var {n : Nat} {l : List Gl} (h : sees T (bs [118, 97, 114]) s = true) : globalsLoop T (n + 1) l s = globalsLoop T n (l ++ (itemsP T (adv s)).1) (itemsP T (adv s)).2 := by
 rw [globalsLoop, h]; rfl
theorem globalsLoop_proc {n : Nat} {l : List Gl} (h1 : sees T (bs [118, 97, 114]) s = false) (h : sees T (bs [112, 114, 111, 99]) s = true) : globalsLoop T (n + 1) l s = globalsLoop T n (l ++ [.proc (routineP T (adv s)).1]) (routineP T (adv s)).2 := by
 rw [globalsLoop, h1, h]; rfl
theorem globalsLoop_func {n : Nat} {l : List Gl} (h1 : sees T (bs [118, 97, 114]) s = false) (h2 : sees T (bs [112, 114, 111, 99]) s = false) (h : sees T (bs [102, 117, 110, 99]) s = true) : globalsLoop T (n + 1) l s = globalsLoop T n (l ++ [.func (routineP T (adv s)).1]) (routineP T (adv s)).2 := by
 rw [globalsLoop, h1, h2, h]; rfl
theorem globalsLoop_stop {n : Nat} {l : List Gl} (h1 : sees T (bs [118, 97, 114]) s = false) (h2 : sees T (bs [112, 114, 111, 99]) s = false) (h : sees T (bs [102, 117, 110, 99]) s = false) : globalsLoop T n l s = (l, s) := by
 cases n with
 | zero => rfl
 | succ n => rw [globalsLoop, h1, h2, h]; rfl
def GsPost (pb tb cap : Nat) (T : List Tok) (r : List Gl × PS) (w : World) (e : Ending) (w' : World) : Prop :=
 ∃ v vs, e = .returned v /\ SliceV (From w.heap.size) w' v vs /\ GAll (From w.heap.size) w' vs r.1 /\ PW pb tb cap T w' r.2 /\ Par pb w w'
theorem globals_any (hT : Toks T) (h : PW pb tb cap T w s) (hg : Good T s) :
  Calls Tryz.prog 142 #[.pointer (some ⟨pb, 0, none⟩)] w fun e w' => GsPost pb tb cap T (globalsP T s) w e w' := by
 have hpl := h.lt
 have htl := h.tlt
 have hsz := h.size
 obtain ⟨i0, hi, hz0, hz1, hz2⟩ := info_parts Tryz.infoGlobal
 go_enter Tryz.func142, Tryz.ntmps142
 go_wp2
 go_loopw [3] (fun v wr => ∃ (s' : PS) (vs : List Value) (acc : List Gl) (n : Nat), wr.ownsRow w.heap.size 175 1 v vs.length vs /\ GAll (Off w.heap.size v) wr vs acc /\ PW pb tb cap T wr s' /\ Par pb w wr /\ Good T s' /\ T.length <= s'.next + n /\ acc.length <= s'.next /\ Hid (globalsLoop T n acc s' = globalsP T s)) (fun _ wr => T.length - nextOf pb wr)
 case atStart => exact ⟨s, [], [], T.length, World.ownsRow_nil _ _ _ _, ⟨rfl, fun j v e hv => by simp at hv⟩, h, Par.refl _ _, hg, by omega, by simp, rfl⟩
 case round =>
  obtain ⟨s', vs, acc, n, hown, hall, hP, hk, hg2, hn2, hacc, HL⟩ := hrel
  have hnx := nextOf_eq hP
  have hks := hk.size
  have hg2' : s'.next < T.length := hg2
  have hlt := hown.lt
  have hvl := hall.1
  have hadv : (adv s').next = s'.next + 1 := rfl
  cases hv1 : sees T (bs [118, 97, 114]) s' with
  | true =>
   have hga := good_adv hT hg2 hv1 (bs_ne _ (by simp))
   have hma := mon_itemsP hT (adv s') hga
   have hlen := len_itemsP hT (adv s') hga
   obtain ⟨m, rfl⟩ : ∃ m, n = m + 1 := ⟨n - 1, by omega⟩
   have HL2 : Hid (globalsLoop T m (acc ++ (itemsP T (adv s')).1) (itemsP T (adv s')).2 = globalsP T s) := by show _ = _; rw [<- HL.out, globalsLoop_var hv1]
   have hN2 := fun w3 (hP3 : PW pb tb cap T w3 (adv s')) => items_any hT hP3 hga
   generalize itemsP T (adv s') = r4 at *
   have hmn := hma.2
   have hmg : r4.2.next < T.length := hma.1
   clear HL
   go_wp2_with (first
    | (go_at_call 165; refine (take_yes hP hg2 (bs [118, 97, 114]) hv1).mono ?_; rintro e w3 ⟨rfl, hP3, hk3⟩)
    | (go_at_call 166; refine (hN2 _ hP3).mono ?_; rintro e w4 ⟨v4, vs4, rfl, hO4, hA4, hP4, hk4, hne4, _⟩; have hl4 := Nat.le_of_eq hA4.1; obtain ⟨g4, c4, rfl, hg4, hg4', hc4⟩ := owns_slice hO4 (List.length_pos_iff.2 hne4))
    | (at_builtin; refine wpList_append_own2 rfl _ _ 114 rfl w.heap.size 175 i0 _ 1 16 Tryz.underlying114 hi hz0 hz1 hz2 rfl (by decide) _ _ _ rfl (owns_par (owns_par hown hk3 hpl) hk4 hpl) ⟨g4, 0, none⟩ vs4.length c4 vs4 rfl (by simp) hc4 hA4.oneCell ?h63 ?hby ?hbase ?hh
       case h63 => unfold maxLen; omega
       case hby => omega
       case hbase => have := hk3.size; have := hk4.size; omega
       intro v5 w5 hown5 hgrow5 hwhere5
       have X : Aside (w5.ownsRow w.heap.size 175 1 v5 (vs.length + vs4.length) (vs ++ vs4) /\ w4.grownBy w5 u3.ownBlock /\ (v5.ownBlock = u3.ownBlock ∨ ∀ k, v5.ownBlock = some k -> w4.heap.size <= k)) := ⟨hown5, hgrow5, hwhere5⟩
       clear hown5 hgrow5 hwhere5))
   have hP5 : PW pb tb cap T w5 r4.2 := hP4.grown X.out.2.1 (fun k hk => (hlt k hk).1) hpl htl
   go_roundw
   case rel =>
    exact ⟨r4.2, vs ++ vs4, acc ++ r4.1, m, by rw [List.length_append]; exact X.out.1, GAll.grow hpl hks hall hown hk3 hk4 hA4 X.out.2.1 X.out.2.2, hP5,
     par_grown (hk.trans (hk3.trans hk4)) X.out.2.1 (fun k hk => (hlt k hk).1), hma.1, by omega, by rw [List.length_append]; omega, HL2⟩
   case measure =>
    rw [nextOf_eq hP5, hnx]
    omega
  | false =>
   cases hv2 : sees T (bs [112, 114, 111, 99]) s' with
   | true =>
    have hga := good_adv hT hg2 hv2 (bs_ne _ (by simp))
    have hma := mon_routineP hT (adv s') hga
    obtain ⟨m, rfl⟩ : ∃ m, n = m + 1 := ⟨n - 1, by omega⟩
    have HL2 : Hid (globalsLoop T m (acc ++ [.proc (routineP T (adv s')).1]) (routineP T (adv s')).2 = globalsP T s) := by show _ = _; rw [<- HL.out, globalsLoop_proc hv1 hv2]
    have hN2 := fun w3 (hP3 : PW pb tb cap T w3 (adv s')) => routine_any hT hP3 hga
    generalize routineP T (adv s') = r4 at *
    have hmn := hma.2
    have hmg : r4.2.next < T.length := hma.1
    clear HL
    go_wp2_with (first
     | (go_at_call 165; refine (take_yes hP2 hg2 (bs [112, 114, 111, 99]) hv2).mono ?_; rintro e w3 ⟨rfl, hP3, hk3⟩; have hk23 := hk2.trans hk3)
     | (go_at_call 165; refine (take_no hP hg2 (bs [118, 97, 114]) hv1).mono ?_; rintro e w2 ⟨rfl, hP2, hk2⟩)
     | (go_at_call 167; refine (hN2 _ hP3).mono ?_; rintro e w4 ⟨vp, vl, vb, vsb, rfl, hSp, hSl, hSb, hAb, hP4, hk4⟩; have hcp := hSp.cells; have hcl := hSl.cells; have hcb := hSb.cells)
     | (at_builtin; refine wpList_append_own2 rfl _ _ 114 rfl w.heap.size 175 i0 _ 1 16 Tryz.underlying114 hi hz0 hz1 hz2 rfl (by decide) _ _ _ rfl ((owns_par (owns_par hown hk23 hpl) hk4 hpl).alloc _) ⟨_, 0, none⟩ 1 1 [.iface 220 (.agg #[.string r4.1.name.1, .int .i64 r4.1.name.2, vp, vl, vb])] rfl rfl (cell_one_new _ _ _) ?proch1 ?proch63 ?prochby ?prochbase ?prochh
        case proch1 => intro u hu; simp at hu; subst hu; rfl
        case proch63 => unfold maxLen; omega
        case prochby => omega
        case prochbase => have := hk23.size; have := hk4.size; simp; omega
        intro v5 w5 hown5 hgrow5 hwhere5
        have X : Aside (w5.ownsRow w.heap.size 175 1 v5 (vs.length + 1) (vs ++ [.iface 220 (.agg #[.string r4.1.name.1, .int .i64 r4.1.name.2, vp, vl, vb])]) /\ (w4.alloc (.cells #[.iface 220 (.agg #[.string r4.1.name.1, .int .i64 r4.1.name.2, vp, vl, vb])] 175)).grownBy w5 u3.ownBlock /\ (v5.ownBlock = u3.ownBlock ∨ ∀ k, v5.ownBlock = some k -> (w4.alloc (.cells #[.iface 220 (.agg #[.string r4.1.name.1, .int .i64 r4.1.name.2, vp, vl, vb])] 175)).heap.size <= k)) := ⟨hown5, hgrow5, hwhere5⟩
        clear hown5 hgrow5 hwhere5))
    have hP5 : PW pb tb cap T w5 r4.2 := (hP4.alloc _).grown X.out.2.1 (fun k hk => (hlt k hk).1) hpl htl
    have hA4 : GAll (From w3.heap.size) (w4.alloc (.cells #[.iface 220 (.agg #[.string r4.1.name.1, .int .i64 r4.1.name.2, vp, vl, vb])] 175)) _ _ := .one ((RGl.proc r4.1 hSp hSl hSb hAb).keep ⟨by simp, fun b hb hl => Below.heap_alloc _ _ _ hl⟩)
    go_roundw
    case rel =>
     exact ⟨r4.2, vs ++ [_], acc ++ [.proc r4.1], m, by rw [List.length_append]; exact X.out.1, GAll.grow hpl hks hall hown hk23 (hk4.alloc _) hA4 X.out.2.1 X.out.2.2, hP5,
      par_grown ((hk.trans (hk23.trans hk4)).alloc _) X.out.2.1 (fun k hk => (hlt k hk).1), hma.1, by omega, by rw [List.length_append]; simp; omega, HL2⟩
    case measure =>
     rw [nextOf_eq hP5, hnx]
     omega
   | false =>
    cases hv3 : sees T (bs [102, 117, 110, 99]) s' with
    | true =>
     have hga := good_adv hT hg2 hv3 (bs_ne _ (by simp))
     have hma := mon_routineP hT (adv s') hga
     obtain ⟨m, rfl⟩ : ∃ m, n = m + 1 := ⟨n - 1, by omega⟩
     have HL2 : Hid (globalsLoop T m (acc ++ [.func (routineP T (adv s')).1]) (routineP T (adv s')).2 = globalsP T s) := by show _ = _; rw [<- HL.out, globalsLoop_func hv1 hv2 hv3]
     have hN2 := fun w3 (hP3 : PW pb tb cap T w3 (adv s')) => routine_any hT hP3 hga
     generalize routineP T (adv s') = r4 at *
     have hmn := hma.2
     have hmg : r4.2.next < T.length := hma.1
     clear HL
     go_wp2_with (first
      | (go_at_call 165; refine (take_yes hP22 hg2 (bs [102, 117, 110, 99]) hv3).mono ?_; rintro e w3 ⟨rfl, hP3, hk3⟩; have hk23 := (hk2.trans hk22).trans hk3)
      | (go_at_call 165; refine (take_no hP2 hg2 (bs [112, 114, 111, 99]) hv2).mono ?_; rintro e w22 ⟨rfl, hP22, hk22⟩)
      | (go_at_call 165; refine (take_no hP hg2 (bs [118, 97, 114]) hv1).mono ?_; rintro e w2 ⟨rfl, hP2, hk2⟩)
      | (go_at_call 167; refine (hN2 _ hP3).mono ?_; rintro e w4 ⟨vp, vl, vb, vsb, rfl, hSp, hSl, hSb, hAb, hP4, hk4⟩; have hcp := hSp.cells; have hcl := hSl.cells; have hcb := hSb.cells)
      | (at_builtin; refine wpList_append_own2 rfl _ _ 114 rfl w.heap.size 175 i0 _ 1 16 Tryz.underlying114 hi hz0 hz1 hz2 rfl (by decide) _ _ _ rfl ((owns_par (owns_par hown hk23 hpl) hk4 hpl).alloc _) ⟨_, 0, none⟩ 1 1 [.iface 222 (.agg #[.string r4.1.name.1, .int .i64 r4.1.name.2, vp, vl, vb])] rfl rfl (cell_one_new _ _ _) ?funch1 ?funch63 ?funchby ?funchbase ?funchh
         case funch1 => intro u hu; simp at hu; subst hu; rfl
         case funch63 => unfold maxLen; omega
         case funchby => omega
         case funchbase => have := hk23.size; have := hk4.size; simp; omega
         intro v5 w5 hown5 hgrow5 hwhere5
         have X : Aside (w5.ownsRow w.heap.size 175 1 v5 (vs.length + 1) (vs ++ [.iface 222 (.agg #[.string r4.1.name.1, .int .i64 r4.1.name.2, vp, vl, vb])]) /\ (w4.alloc (.cells #[.iface 222 (.agg #[.string r4.1.name.1, .int .i64 r4.1.name.2, vp, vl, vb])] 175)).grownBy w5 u3.ownBlock /\ (v5.ownBlock = u3.ownBlock ∨ ∀ k, v5.ownBlock = some k -> (w4.alloc (.cells #[.iface 222 (.agg #[.string r4.1.name.1, .int .i64 r4.1.name.2, vp, vl, vb])] 175)).heap.size <= k)) := ⟨hown5, hgrow5, hwhere5⟩
         clear hown5 hgrow5 hwhere5))
     have hP5 : PW pb tb cap T w5 r4.2 := (hP4.alloc _).grown X.out.2.1 (fun k hk => (hlt k hk).1) hpl htl
     have hA4 : GAll (From w3.heap.size) (w4.alloc (.cells #[.iface 222 (.agg #[.string r4.1.name.1, .int .i64 r4.1.name.2, vp, vl, vb])] 175)) _ _ := .one ((RGl.func r4.1 hSp hSl hSb hAb).keep ⟨by simp, fun b hb hl => Below.heap_alloc _ _ _ hl⟩)
     go_roundw
     case rel =>
      exact ⟨r4.2, vs ++ [_], acc ++ [.func r4.1], m, by rw [List.length_append]; exact X.out.1, GAll.grow hpl hks hall hown hk23 (hk4.alloc _) hA4 X.out.2.1 X.out.2.2, hP5,
       par_grown ((hk.trans (hk23.trans hk4)).alloc _) X.out.2.1 (fun k hk => (hlt k hk).1), hma.1, by omega, by rw [List.length_append]; simp; omega, HL2⟩
     case measure =>
      rw [nextOf_eq hP5, hnx]
      omega
    | false =>
     have HL2 : Hid (globalsP T s = (acc, s')) := by show _ = _; rw [<- HL.out, globalsLoop_stop hv1 hv2 hv3]
     clear HL
     go_wp2_with (first
      | (go_at_call 165; refine (take_no hP3 hg2 (bs [102, 117, 110, 99]) hv3).mono ?_; rintro e w4 ⟨rfl, hP4, hk4⟩)
      | (go_at_call 165; refine (take_no hP2 hg2 (bs [112, 114, 111, 99]) hv2).mono ?_; rintro e w3 ⟨rfl, hP3, hk3⟩)
      | (go_at_call 165; refine (take_no hP hg2 (bs [118, 97, 114]) hv1).mono ?_; rintro e w2 ⟨rfl, hP2, hk2⟩))
     go_ret
     have hk24 := (hk2.trans hk3).trans hk4
     refine ⟨_, vs, rfl, sliceV_of_owns (owns_par hown hk24 hpl), ?_⟩
     rw [HL2.out]
     exact ⟨(hall.keep (keepOff_par hk24 hpl)).weak (fun b hb _ => hb.1), hP4, hk.trans hk24⟩
end
section
variable {pb tb cap : Nat} {T : List Tok} {w : World} {s : PS}
theorem p_eq_over (k : TK) : (k.p != 0) = !decide (k = .over) := by cases k <;> rfl
def PrPost (pb tb cap : Nat) (T : List Tok) (r : Pr × PS) (w : World) (e : Ending) (w' : World) : Prop :=
 ∃ vg vb gs bs, e = .returned (.agg #[vg, vb]) /\ SliceV (From w.heap.size) w' vg gs /\ GAll (From w.heap.size) w' gs r.1.globals /\ SliceV (From w.heap.size) w' vb bs /\ SAll (From w.heap.size) w' bs r.1.body /\ PW pb tb cap T w' r.2 /\ Par pb w w'
theorem program_any (hT : Toks T) (h : PW pb tb cap T w s) (hg : Good T s) :
  Calls Tryz.prog 119 #[.pointer (some ⟨pb, 0, none⟩)] w fun e w' => PrPost pb tb cap T (programP T s) w e w' := by
 have hpl := h.lt
 have htl := h.tlt
 have g1 := (mon_globalsP hT s hg).1
 have g2 := (mon_bodyP hT _ g1).1
 have g3 := (mon_want hT (f := bs [46]) (bs_ne _ (by simp)) g2).1
 have hG := fun o => globals_any hT (h.alloc o) hg
 have hB := fun w1 (hP1 : PW pb tb cap T w1 (globalsP T s).2) => body_any hT hP1 g1
 have HE : Hid (programP T s = (⟨(globalsP T s).1, (bodyP T (globalsP T s).2).1⟩, endP T (want T (bs [46]) (bodyP T (globalsP T s).2).2))) := rfl
 generalize bodyP T (globalsP T s).2 = rb at *
 generalize globalsP T s = rg at *
 generalize hs4 : want T (bs [46]) rb.2 = s4 at *
 have hF0 := tokField0
 have hW := fun w2 (hP2 : PW pb tb cap T w2 rb.2) => want_any hP2 g2 (bs [46])
 rw [hs4] at hW
 clear hs4
 cases ho : kindIs T .over s4 with
 | true =>
  have HO : Hid (endP T s4 = s4) := by show _ = _; simp [endP, ho]
  have hk0 : (cur T s4).kind = .over := by simpa [kindIs] using ho
  have hK := fun w3 (hP3 : PW pb tb cap T w3 s4) => token_any hP3 g3
  rw [hk0] at hK
  simp only [TK.p] at hK
  clear ho hk0
  go_enter Tryz.func119, Tryz.ntmps119
  go_wp2_with (first
   | (go_at_call 142; refine (hG _).mono ?_; rintro e w1 ⟨vg, gs, rfl, hSg, hAg, hP1, hk1⟩; have hcg := hSg.cells; have htg := run_store_one (v := vg) (sliceV_one hSg))
   | (go_at_call 143; refine (hB _ hP1).mono ?_; rintro e w2 ⟨vb, vsb, rfl, hSb, hAb, hP2, hk2⟩; have hcb := hSb.cells; have htb := run_store_one (v := vb) (sliceV_one hSb))
   | (go_at_call 144; refine (hW _ hP2).mono ?_; rintro e w3 ⟨rfl, hP3, hk3⟩)
   | (go_at_call 145; refine (hK _ hP3).mono ?_; rintro e w4 ⟨rfl, hb4⟩; have hP4 := hP3.below hb4; have hk4 := Par.of_below (pb := pb) hb4; obtain ⟨q0, q1, hq⟩ := (((hk1.trans hk2).trans hk3).trans hk4).new hpl))
  refine bodyPost_ret (v := .agg #[vg, vb]) (by simp [results, Tryz.results119, go_sem, q0]) rfl ?_
  go_light
  refine ⟨vg, vb, gs, vsb, rfl, ?_⟩
  rw [HE.out]
  show SliceV _ _ _ _ /\ GAll _ _ _ rg.1 /\ SliceV _ _ _ _ /\ SAll _ _ _ rb.1 /\ PW _ _ _ _ _ (endP T s4) /\ _
  rw [HO.out]
  have hs1 : w.heap.size + 1 <= w1.heap.size := by have := hk1.size; simp at this; omega
  have hQ : ∀ i, From (w.heap.size + 1) i -> i ≠ w.heap.size := fun i hi => by unfold From at hi; omega
  have k24 := (hk2.trans hk3).trans hk4
  have k34 := hk3.trans hk4
  have kF := ((KeepQ.refl (From (w.heap.size + 1)) w4).setCell ⟨w.heap.size, 0, none⟩ vg hQ).setCell ⟨w.heap.size, 1, none⟩ vb hQ
  have up : ∀ (W : World) b, From (w.heap.size + 1) b -> b < W.heap.size -> From w.heap.size b := fun W b hb _ => by unfold From at *; omega
  have ug : ∀ b, From (w.alloc (.cells #[.slice none 0 0, .slice none 0 0] 117)).heap.size b -> b < w1.heap.size -> From (w.heap.size + 1) b := fun b hb _ => by unfold From at *; simpa using hb
  have ub : ∀ b, From w1.heap.size b -> b < w2.heap.size -> From (w.heap.size + 1) b := fun b hb _ => by unfold From at *; omega
  refine ⟨(((hSg.weak ug).keep (k24.keepQ (by omega))).keep kF).weak (up _), (((hAg.weak ug).keep (k24.keepQ (by omega))).keep kF).weak (up _),
   (((hSb.weak ub).keep (k34.keepQ (by omega))).keep kF).weak (up _), (((hAb.weak ub).keep (k34.keepQ (by omega))).keep kF).weak (up _),
   (hP4.setOther _ _ ?_ ?_).setOther _ _ ?_ ?_, ((((Par.refl _ _).alloc _).trans (hk1.trans k24)).setNew ?_ _).setNew ?_ _⟩
  all_goals (simp; try omega)
 | false =>
  have HO : Hid (endP T s4 = fails T 4 s4) := by show _ = _; simp [endP, ho]
  have hk0 : ((cur T s4).kind.p != 0) = true := by rw [p_eq_over]; simpa [kindIs] using ho
  have hK := fun w3 (hP3 : PW pb tb cap T w3 s4) => token_any hP3 g3
  clear ho
  go_enter Tryz.func119, Tryz.ntmps119
  go_wp2_with (first
   | (go_at_call 142; refine (hG _).mono ?_; rintro e w1 ⟨vg, gs, rfl, hSg, hAg, hP1, hk1⟩; have hcg := hSg.cells; have htg := run_store_one (v := vg) (sliceV_one hSg))
   | (go_at_call 143; refine (hB _ hP1).mono ?_; rintro e w2 ⟨vb, vsb, rfl, hSb, hAb, hP2, hk2⟩; have hcb := hSb.cells; have htb := run_store_one (v := vb) (sliceV_one hSb))
   | (go_at_call 144; refine (hW _ hP2).mono ?_; rintro e w3 ⟨rfl, hP3, hk3⟩)
   | (go_at_call 145; refine (hK _ hP3).mono ?_; rintro e w44 ⟨rfl, hb4⟩; have hP44 := hP3.below hb4; have hk44 := Par.of_below (pb := pb) hb4)
   | (go_at_call 146; refine (fail_any hP44 g3 4).mono ?_; rintro e w4 ⟨rfl, hP4, hk45⟩; have hk4 := hk44.trans hk45; obtain ⟨q0, q1, hq⟩ := (((hk1.trans hk2).trans hk3).trans hk4).new hpl))
  refine bodyPost_ret (v := .agg #[vg, vb]) (by simp [results, Tryz.results119, go_sem, q0]) rfl ?_
  go_light
  refine ⟨vg, vb, gs, vsb, rfl, ?_⟩
  rw [HE.out]
  show SliceV _ _ _ _ /\ GAll _ _ _ rg.1 /\ SliceV _ _ _ _ /\ SAll _ _ _ rb.1 /\ PW _ _ _ _ _ (endP T s4) /\ _
  rw [HO.out]
  have hs1 : w.heap.size + 1 <= w1.heap.size := by have := hk1.size; simp at this; omega
  have hQ : ∀ i, From (w.heap.size + 1) i -> i ≠ w.heap.size := fun i hi => by unfold From at hi; omega
  have k24 := (hk2.trans hk3).trans hk4
  have k34 := hk3.trans hk4
  have kF := ((KeepQ.refl (From (w.heap.size + 1)) w4).setCell ⟨w.heap.size, 0, none⟩ vg hQ).setCell ⟨w.heap.size, 1, none⟩ vb hQ
  have up : ∀ (W : World) b, From (w.heap.size + 1) b -> b < W.heap.size -> From w.heap.size b := fun W b hb _ => by unfold From at *; omega
  have ug : ∀ b, From (w.alloc (.cells #[.slice none 0 0, .slice none 0 0] 117)).heap.size b -> b < w1.heap.size -> From (w.heap.size + 1) b := fun b hb _ => by unfold From at *; simpa using hb
  have ub : ∀ b, From w1.heap.size b -> b < w2.heap.size -> From (w.heap.size + 1) b := fun b hb _ => by unfold From at *; omega
  refine ⟨(((hSg.weak ug).keep (k24.keepQ (by omega))).keep kF).weak (up _), (((hAg.weak ug).keep (k24.keepQ (by omega))).keep kF).weak (up _),
   (((hSb.weak ub).keep (k34.keepQ (by omega))).keep kF).weak (up _), (((hAb.weak ub).keep (k34.keepQ (by omega))).keep kF).weak (up _),
   (hP4.setOther _ _ ?_ ?_).setOther _ _ ?_ ?_, ((((Par.refl _ _).alloc _).trans (hk1.trans k24)).setNew ?_ _).setNew ?_ _⟩
  all_goals (simp; try omega)
end
theorem Par.new2 {w w2 : World} {c : Array Value} {t : TypeId} {o : Obj} (hk : Par (w.heap.size + 1) ((w.alloc (.cells c t)).alloc o) w2) :
  (∀ i, w2.cell? ⟨w.heap.size, i, none⟩ = c[i]?) /\ (∀ i, w2.frozen? ⟨w.heap.size, i, none⟩ = false) /\ w.heap.size + 1 < w2.heap.size := by
 have hs := hk.size
 have e1 : (w.alloc (.cells c t)).heap.size = w.heap.size + 1 := by simp
 have e2 : ((w.alloc (.cells c t)).alloc o).heap.size = w.heap.size + 2 := by simp
 rw [e2] at hs
 refine ⟨fun i => ?_, fun i => ?_, by omega⟩
 ·rw [hk.cell (p := ⟨w.heap.size, i, none⟩) (by rw [e2]; show w.heap.size < _; omega) (by show w.heap.size ≠ _; omega), World.cell?_alloc_lt _ _ _ (by rw [e1]; show w.heap.size < _; omega)]
  exact World.cell?_alloc_new w c t i
 ·rw [hk.frozen (p := ⟨w.heap.size, i, none⟩) (by rw [e2]; show w.heap.size < _; omega) (by show w.heap.size ≠ _; omega), World.frozen?_alloc_old _ _ _ (by rw [e1]; show w.heap.size ≠ _; omega)]
  exact World.frozen?_alloc_new w c t i
theorem Par.toBelow {pb B : Nat} {a b : World} (h : Par pb a b) (h1 : B <= a.heap.size) (h2 : B <= pb) : Below B a b := ⟨h.os, h.tape, h.output, h.size, fun k hk => h.block k (by omega) (by omega)⟩
theorem KeepQ.alloc {Q : Nat -> Prop} {a w : World} (h : KeepQ Q a w) (o : Obj) : KeepQ Q a (w.alloc o) := h.trans ⟨by simp, fun b _ hl => Below.heap_alloc _ _ _ hl⟩
def ProgPost (T : List Tok) (w : World) (e : Ending) (w' : World) : Prop :=
 Below w.heap.size w w' /\
 (((programP T ⟨0, 0, 0⟩).2.code ≠ 0 /\ e = .returned (.tuple #[.agg #[.slice none 0 0, .slice none 0 0], .int .i64 (programP T ⟨0, 0, 0⟩).2.code, .int .i64 (programP T ⟨0, 0, 0⟩).2.at_])) ∨
  ((programP T ⟨0, 0, 0⟩).2.code = 0 /\ ∃ vg vb gs bs, e = .returned (.tuple #[.agg #[vg, vb], .int .i64 0, .int .i64 0]) /\ SliceV (From w.heap.size) w' vg gs /\ GAll (From w.heap.size) w' gs (programP T ⟨0, 0, 0⟩).1.globals /\ SliceV (From w.heap.size) w' vb bs /\ SAll (From w.heap.size) w' bs (programP T ⟨0, 0, 0⟩).1.body))
theorem parseProgram_any {T : List Tok} {w : World} {tb cap : Nat} (hT : Toks T) (hsz : T.length <= 601) (htl : tb < w.heap.size) (htok : ∀ j u, (toksC T)[j]? = some u -> w.cell? ⟨tb, j, none⟩ = some u) :
  Calls Tryz.prog 86 #[.slice (some ⟨tb, 0, none⟩) T.length cap] w fun e w' => ProgPost T w e w' := by
 have hgp := hT.pos
 have hPr := fun (W : World) (h : PW (w.heap.size + 1) tb cap T W ⟨0, 0, 0⟩) => program_any hT h (by show 0 < T.length; exact hgp)
 generalize hr : programP T ⟨0, 0, 0⟩ = r at *
 have HP0 : Hid (∀ (a : Obj), PW (w.heap.size + 1) tb cap T ((w.alloc a).alloc (.cells #[.int .i64 0, .int .i64 0, .slice (some ⟨tb, 0, none⟩) T.length cap, .int .i64 0] 198)) ⟨0, 0, 0⟩) := by
  intro a
  have e1 : (w.alloc a).heap.size = w.heap.size + 1 := by simp
  have c := fun o => World.cell?_alloc_new (w.alloc a) #[.int .i64 0, .int .i64 0, .slice (some ⟨tb, 0, none⟩) T.length cap, .int .i64 0] 198 o
  have f := fun o => World.frozen?_alloc_new (w.alloc a) #[.int .i64 0, .int .i64 0, .slice (some ⟨tb, 0, none⟩) T.length cap, .int .i64 0] 198 o
  rw [e1] at c f
  refine ⟨c 0, c 1, c 2, c 3, f, fun j u hj => ?_, by omega, by simp; omega, hsz⟩
  rw [World.cell?_alloc_lt _ _ _ (by rw [e1]; show tb < _; omega), World.cell?_alloc_lt _ _ _ htl]
  exact htok j u hj
 by_cases hc : r.2.code = 0
 ·go_enter Tryz.func86, Tryz.ntmps86
  go_wp2_with (go_at_call 119; refine (hPr _ (HP0.out _)).mono ?_; rintro e w1 ⟨vg, vb, gs, vbs, rfl, hSg, hAg, hSb, hAb, hP1, hk1⟩
               have hcg := hSg.cells; have htg := run_store_one (v := vg) (sliceV_one hSg); have hcb := hSb.cells; have htb := run_store_one (v := vb) (sliceV_one hSb)
               have hcode := hP1.code
               obtain ⟨q0, q1, hl1⟩ := hk1.new2
               have hl2 : w.heap.size < w1.heap.size := by omega)
  refine bodyPost_ret (v := .tuple #[.agg #[vg, vb], .int .i64 0, .int .i64 0]) (by simp [results, Tryz.results86, go_sem, q0, hl2]) rfl ?_
  go_light
  have b0 : Below w.heap.size w w1 := (((Below.refl _ _).alloc (Nat.le_refl _) _).alloc (by simp) _).trans (hk1.toBelow (by simp; omega) (by omega))
  refine ⟨((b0.setCell (Nat.le_refl _) _).setCell (Nat.le_refl _) _).alloc (by simp [World.setCell]; omega) _, .inr ?_⟩
  rw [hr]
  have hQ : ∀ i, From (w.heap.size + 1) i -> i ≠ w.heap.size := fun i hi => by unfold From at hi; omega
  have kF := (((KeepQ.refl (From (w.heap.size + 1)) w1).setCell ⟨w.heap.size, 0, none⟩ vg hQ).setCell ⟨w.heap.size, 1, none⟩ vb hQ).alloc (.cells #[vg, vb] 117)
  have up : ∀ (W : World) b, From (w.heap.size + 1) b -> b < W.heap.size -> From w.heap.size b := fun W b hb _ => by unfold From at *; omega
  have ug : ∀ b, From ((w.alloc (.cells #[.slice none 0 0, .slice none 0 0] 117)).alloc (.cells #[.int .i64 0, .int .i64 0, .slice (some ⟨tb, 0, none⟩) T.length cap, .int .i64 0] 198)).heap.size b -> b < w1.heap.size -> From (w.heap.size + 1) b := fun b hb _ => by
   unfold From at *; simp at hb; omega
  exact ⟨hc, vg, vb, gs, vbs, rfl, ((hSg.weak ug).keep kF).weak (up _), ((hAg.weak ug).keep kF).weak (up _), ((hSb.weak ug).keep kF).weak (up _), ((hAb.weak ug).keep kF).weak (up _)⟩
 ·have hc' : ((r.2.code : Int) != 0) = true := by simp; omega
  go_enter Tryz.func86, Tryz.ntmps86
  go_wp2_with (go_at_call 119; refine (hPr _ (HP0.out _)).mono ?_; rintro e w1 ⟨vg, vb, gs, vbs, rfl, hSg, hAg, hSb, hAb, hP1, hk1⟩
               have hcg := hSg.cells; have htg := run_store_one (v := vg) (sliceV_one hSg); have hcb := hSb.cells; have htb := run_store_one (v := vb) (sliceV_one hSb)
               have hcode := hP1.code
               have hat := hP1.at_
               obtain ⟨q0, q1, hl1⟩ := hk1.new2
               have hl2 : w.heap.size < w1.heap.size := by omega
               have q2 : w1.cell? ⟨w.heap.size, 0, none⟩ = some (.slice none 0 0) := q0 0
               have q3 : w1.cell? ⟨w.heap.size, 1, none⟩ = some (.slice none 0 0) := q0 1
               have q4 := q1 0
               have q5 := q1 1)
  go_region
  go_wp2
  refine bodyPost_ret (v := .tuple #[.agg #[.slice none 0 0, .slice none 0 0], .int .i64 r.2.code, .int .i64 r.2.at_]) (by simp [results, Tryz.results86, go_sem, q0, hl2]) rfl ?_
  go_light
  have b0 : Below w.heap.size w w1 := (((Below.refl _ _).alloc (Nat.le_refl _) _).alloc (by simp) _).trans (hk1.toBelow (by simp; omega) (by omega))
  refine ⟨(((b0.setCell (Nat.le_refl _) _).setCell (Nat.le_refl _) _).alloc (by simp [World.setCell]; omega) _).drew, .inl ?_⟩
  rw [hr]
  exact ⟨hc, rfl⟩
end Go.Proofs.YtklobognaldjpaaGreat
