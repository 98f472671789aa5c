/- What is declared: a body, an item, names. What is declared: names and items, with commas. What is declared: items. What is declared: a proc or a func. -/
import Derived.Test.YtklobognaldjpaaGreatCStmt4
set_option maxRecDepth 1000000
set_option maxHeartbeats 1000000
namespace Go.Proofs.YtklobognaldjpaaGreat
open Go.RowKit
def namesC (ns : List (ByteArray × Nat)) : List Value := ns.flatMap fun x => [.string x.1, .int .i64 x.2]
theorem namesC_len (ns : List (ByteArray × Nat)) : (namesC ns).length = ns.length * 2 := by
 induction ns with
 | nil => rfl
 | cons a l ih =>
  have e : namesC (a :: l) = [.string a.1, .int .i64 a.2] ++ namesC l := rfl
  rw [e, List.length_append, ih, List.length_cons]; simp; omega
theorem namesC_append (a b : List (ByteArray × Nat)) : namesC (a ++ b) = namesC a ++ namesC b := by simp [namesC]
theorem namesC_one (ns : List (ByteArray × Nat)) : ∀ u ∈ namesC ns, u.oneCell' = true := by
 intro u hu
 simp only [namesC, List.mem_flatMap, List.mem_cons, List.not_mem_nil, or_false] at hu
 obtain ⟨x, _, rfl | rfl⟩ := hu <;> rfl
def SliceN (Q : Nat -> Prop) (w : World) (v : Value) (ns : List (ByteArray × Nat)) : Prop :=
 (v = .slice none 0 0 /\ ns = []) ∨ ∃ b cap, v = .slice (some ⟨b, 0, none⟩) ns.length cap /\ Q b /\ b < w.heap.size /\ ∀ j u, (namesC ns)[j]? = some u -> w.cell? ⟨b, j, none⟩ = some u
theorem SliceN.keep {Q : Nat -> Prop} {w w' : World} {v : Value} {vs : List (ByteArray × Nat)} (h : SliceN Q w v vs) (hk : KeepQ Q w w') : SliceN Q w' v vs := by
 rcases h with h | ⟨b, cap, hv, hn, hl, hc⟩
 ·exact .inl h
 ·refine .inr ⟨b, cap, hv, hn, Nat.lt_of_lt_of_le hl hk.1, fun j x hj => ?_⟩
  rw [World.cell?_of_block (w := w) (hk.2 b hn hl)]; exact hc j x hj
theorem SliceN.weak {Q Q' : Nat -> Prop} {w : World} {v : Value} {vs : List (ByteArray × Nat)} (h : SliceN Q w v vs) (hq : ∀ b, Q b -> b < w.heap.size -> Q' b) : SliceN Q' w v vs := by
 rcases h with h | ⟨b, cap, hv, hn, hl, hc⟩
 ·exact .inl h
 ·exact .inr ⟨b, cap, hv, hq b hn hl, hl, hc⟩
theorem SliceN.cells {Q : Nat -> Prop} {w : World} {v : Value} {vs : List (ByteArray × Nat)} (h : SliceN Q w v vs) : ∀ cs, v = .agg cs -> False := by
 intro cs hc
 rcases h with ⟨rfl, _⟩ | ⟨b, cap, rfl, _⟩ <;> cases hc
theorem sliceN_of_owns {w : World} {base : Nat} {e : TypeId} {v : Value} {ns : List (ByteArray × Nat)} (h : w.ownsRow base e 2 v ns.length (namesC ns)) : SliceN (From base) w v ns := by
 rcases h.2 with ⟨rfl, h0⟩ | ⟨g, cap, cur, rfl, hg, hh, hn, _, _, ht⟩
 ·exact .inl ⟨rfl, List.eq_nil_of_length_eq_zero h0⟩
 ·refine .inr ⟨g, cap, rfl, hg, (Array.getElem?_eq_some_iff.1 hh).1, fun j x hj => ?_⟩
  have hjl : j < (namesC ns).length := (List.getElem?_eq_some_iff.1 hj).1
  rw [namesC_len] at hjl
  have := h.cellAt (g := g) (n := ns.length) (cap := cap) j hjl
  rw [this]; exact hj
inductive RGl (Q : Nat -> Prop) (w : World) : Value -> Gl -> Prop
 | var (n : ByteArray) (p : Nat) : RGl Q w (.iface 212 (.agg #[.string n, .int .i64 p])) (.var n p)
 | arr (n : ByteArray) (p size at_ : Nat) : RGl Q w (.iface 215 (.agg #[.string n, .int .i64 p, .int .i64 size, .int .i64 at_])) (.arr n p size at_)
 | proc (r : Ro) {vp vl vb : Value} {vs : List Value} : SliceN Q w vp r.params -> SliceN Q w vl r.locals -> SliceV Q w vb vs -> SAll Q w vs r.body -> RGl Q w (.iface 220 (.agg #[.string r.name.1, .int .i64 r.name.2, vp, vl, vb])) (.proc r)
 | func (r : Ro) {vp vl vb : Value} {vs : List Value} : SliceN Q w vp r.params -> SliceN Q w vl r.locals -> SliceV Q w vb vs -> SAll Q w vs r.body -> RGl Q w (.iface 222 (.agg #[.string r.name.1, .int .i64 r.name.2, vp, vl, vb])) (.func r)
theorem RGl.keep {Q : Nat -> Prop} {w w' : World} {v : Value} {e : Gl} (h : RGl Q w v e) (hk : KeepQ Q w w') : RGl Q w' v e := by
 cases h with
 | var n p => exact .var n p
 | arr n p s a => exact .arr n p s a
 | proc r h1 h2 h3 h4 => exact .proc r (h1.keep hk) (h2.keep hk) (h3.keep hk) (h4.keep hk)
 | func r h1 h2 h3 h4 => exact .func r (h1.keep hk) (h2.keep hk) (h3.keep hk) (h4.keep hk)
theorem RGl.weak {Q Q' : Nat -> Prop} {w : World} {v : Value} {e : Gl} (h : RGl Q w v e) (hq : ∀ b, Q b -> b < w.heap.size -> Q' b) : RGl Q' w v e := by
 cases h with
 | var n p => exact .var n p
 | arr n p s a => exact .arr n p s a
 | proc r h1 h2 h3 h4 => exact .proc r (h1.weak hq) (h2.weak hq) (h3.weak hq) (h4.weak hq)
 | func r h1 h2 h3 h4 => exact .func r (h1.weak hq) (h2.weak hq) (h3.weak hq) (h4.weak hq)
theorem RGl.cells {Q : Nat -> Prop} {w : World} {v : Value} {e : Gl} (h : RGl Q w v e) : ∀ cs, v = .agg cs -> False := by cases h <;> (intro cs hc; cases hc)
theorem RGl.one {Q : Nat -> Prop} {w : World} {v : Value} {e : Gl} (h : RGl Q w v e) : v.oneCell' = true := by cases h <;> rfl
section
variable {pb tb cap : Nat} {T : List Tok} {w : World} {s : PS}
theorem body_any (hT : Toks T) (h : PW pb tb cap T w s) (hg : Good T s) :
  Calls Tryz.prog 143 #[.pointer (some ⟨pb, 0, none⟩)] w fun e w' => ListPost pb tb cap T (bodyP T s) w e w' := by
 have hpl := h.lt
 have hg1 := (mon_want hT (f := bs [98, 101, 103, 105, 110]) (bs_ne _ (by simp)) hg).1
 have hg2 := (mon_listOf hT (mon_stmtD hT 14) _ hg1).1
 have hL := fun w1 (hP1 : PW pb tb cap T w1 (want T (bs [98, 101, 103, 105, 110]) s)) => list_any hT (stmt_ok hT 14 1 (by omega) (by omega)) (mon_stmtD hT 14) hP1 hg1
 have HE : Hid (bodyP T s = ((listOf T (stmtD T 14) (want T (bs [98, 101, 103, 105, 110]) s)).1, want T (bs [101, 110, 100]) (listOf T (stmtD T 14) (want T (bs [98, 101, 103, 105, 110]) s)).2)) := rfl
 generalize listOf T (stmtD T 14) (want T (bs [98, 101, 103, 105, 110]) s) = r at *
 go_enter Tryz.func143, Tryz.ntmps143
 go_wp2_with (first
  | (go_at_call 144; refine (want_any hP2 hg2 (bs [101, 110, 100])).mono ?_; rintro e w3 ⟨rfl, hP3, hk3⟩)
  | (go_at_call 144; refine (want_any h hg (bs [98, 101, 103, 105, 110])).mono ?_; rintro e w1 ⟨rfl, hP1, hk1⟩)
  | (go_at_call 168; refine (hL _ hP1).mono ?_; rintro e w2 ⟨v2, vs2, rfl, hS2, hA2, hP2, hk2⟩))
 go_ret
 refine ⟨_, vs2, rfl, ?_⟩
 rw [HE.out]
 have hF : ∀ b, From w1.heap.size b -> b < w2.heap.size -> From w.heap.size b := fun b hb _ => by unfold From at *; have := hk1.size; omega
 exact ⟨(hS2.weak hF).keep (hk3.keepQ hpl), (hA2.weak hF).keep (hk3.keepQ hpl), hP3, (hk1.trans hk2).trans hk3⟩
theorem numKind_any (h : PW pb tb cap T w s) (hg : Good T s) :
  Calls Tryz.prog 203 #[.pointer (some ⟨pb, 0, none⟩), .int .i64 2] w fun e w' => ∃ k t, e = .returned (.agg #[.int .i64 k, .string t, .int .i64 (numP T s).1.1, .int .i64 (numP T s).1.2]) /\ PW pb tb cap T w' (numP T s).2 /\ Par pb w w' := by
 cases hk : kindIs T .number s with
 | true =>
  have e : numP T s = (((cur T s).val, (cur T s).pos), adv s) := by simp [numP, hk]
  rw [e]
  have hk' : (cur T s).kind.p = 2 := by have := kind_num (T := T) s; rw [hk] at this; simpa using this
  exact (wantKind_yes h hg 2 hk').mono fun e w' ⟨h1, h2, h3⟩ => ⟨_, _, h1, h2, h3⟩
 | false =>
  have e : numP T s = ((0, 0), fails T 4 s) := by simp [numP, hk]
  rw [e]
  have hk' : ((cur T s).kind.p != 2) = true := by have := kind_num (T := T) s; rw [hk] at this; simp at this; simpa using this
  exact (wantKind_no h hg 2 hk').mono fun e w' ⟨h1, h2, h3⟩ => ⟨_, _, h1, h2, h3⟩
def GlPost (pb tb cap : Nat) (T : List Tok) (r : Gl × PS) (w : World) (e : Ending) (w' : World) : Prop :=
 ∃ v, e = .returned v /\ RGl (From w.heap.size) w' v r.1 /\ PW pb tb cap T w' r.2 /\ Par pb w w'
theorem item_any (hT : Toks T) (h : PW pb tb cap T w s) (hg : Good T s) :
  Calls Tryz.prog 188 #[.pointer (some ⟨pb, 0, none⟩)] w fun e w' => GlPost pb tb cap T (itemP T s) w e w' := by
 have hpl := h.lt
 have hN := name_any h hg
 have hgn := (mon_nameP hT s hg).1
 cases hs : sees T (bs [91]) (nameP T s).2 with
 | true =>
  have hga := good_adv hT hgn hs (bs_ne _ (by simp))
  have hgm := (mon_numP hT _ hga).1
  have hNum := fun w1 (hP1 : PW pb tb cap T w1 (adv (nameP T s).2)) => numKind_any hP1 hga
  have HE : Hid (itemP T s = (.arr (nameP T s).1.1 (nameP T s).1.2 (numP T (adv (nameP T s).2)).1.1 (numP T (adv (nameP T s).2)).1.2, want T (bs [93]) (numP T (adv (nameP T s).2)).2)) := by show _ = _; unfold itemP; rw [hs]; rfl
  generalize numP T (adv (nameP T s).2) = rn at *
  generalize (nameP T s).1.1 = nn at *
  generalize (nameP T s).1.2 = np at *
  generalize (nameP T s).2 = s1 at *
  go_enter Tryz.func188, Tryz.ntmps188
  go_wp2_with (first
   | (go_at_call 189; refine hN.mono ?_; rintro e w1 ⟨rfl, hP1, hk1⟩; have hl1 := hP1.lt)
   | (go_at_call 165; refine (take_yes (hP1.alloc _) hgn (bs [91]) hs).mono ?_; rintro e w2 ⟨rfl, hP2, hk2⟩)
   | (go_at_call 203; refine (hNum _ hP2).mono ?_; rintro e w3 ⟨kk, tt, rfl, hP3, hk3⟩; have hk23 := hk2.trans hk3; have hl3 := hP3.lt)
   | (go_at_call 144; refine (want_any (hP3.alloc _) hgm (bs [93])).mono ?_; rintro e w4 ⟨rfl, hP4, hk4⟩; obtain ⟨q0, q1, hs2⟩ := ((hk23.alloc _).trans hk4).new hl1; obtain ⟨q3, q4, hs3⟩ := hk4.new hl3))
  go_ret
  refine ⟨_, rfl, ?_⟩
  rw [HE.out]
  exact ⟨.arr _ _ _ _, hP4, (((hk1.alloc _).trans hk23).alloc _).trans hk4⟩
 | false =>
  have HE : Hid (itemP T s = (.var (nameP T s).1.1 (nameP T s).1.2, (nameP T s).2)) := by show _ = _; unfold itemP; rw [hs]; rfl
  generalize (nameP T s).1.1 = nn at *
  generalize (nameP T s).1.2 = np at *
  generalize (nameP T s).2 = s1 at *
  go_enter Tryz.func188, Tryz.ntmps188
  go_wp2_with (first
   | (go_at_call 189; refine hN.mono ?_; rintro e w1 ⟨rfl, hP1, hk1⟩; have hl1 := hP1.lt)
   | (go_at_call 165; refine (take_no (hP1.alloc _) hgn (bs [91]) hs).mono ?_; rintro e w2 ⟨rfl, hP2, hk2⟩; obtain ⟨q0, q1, hs2⟩ := hk2.new hl1))
  go_ret
  refine ⟨_, rfl, ?_⟩
  rw [HE.out]
  exact ⟨.var _ _, hP2, (hk1.alloc _).trans hk2⟩
end
theorem Tryz.infoName : (Tryz.prog.info? 210).map (fun i => (i.zero, i.size, i.bytes)) = some (some (.agg #[.string ByteArray.empty, .int .i64 0]), 2, 24) := by kernel_rfl
theorem Tryz.infoGlobal : (Tryz.prog.info? 175).map (fun i => (i.zero, i.size, i.bytes)) = some (some .nilIface, 1, 16) := by kernel_rfl
section
variable {pb tb cap : Nat} {T : List Tok} {w : World} {s : PS}
theorem namesLoop_stop {n : Nat} {l : List (ByteArray × Nat)} (h : sees T (bs [44]) s = false) : namesLoop T n l s = (l, s) := by
 cases n with
 | zero => rfl
 | succ n => rw [namesLoop, h]; rfl
theorem namesLoop_go {n : Nat} {l : List (ByteArray × Nat)} (h : sees T (bs [44]) s = true) : namesLoop T (n + 1) l s = namesLoop T n (l ++ [(nameP T (adv s)).1]) (nameP T (adv s)).2 := by
 rw [namesLoop, h]; rfl
def NmPost (pb tb cap : Nat) (T : List Tok) (r : List (ByteArray × Nat) × PS) (w : World) (e : Ending) (w' : World) : Prop :=
 ∃ v, e = .returned v /\ w'.ownsRow w.heap.size 210 2 v r.1.length (namesC r.1) /\ PW pb tb cap T w' r.2 /\ Par pb w w'
theorem names_any (hT : Toks T) (h : PW pb tb cap T w s) (hg : Good T s) :
  Calls Tryz.prog 190 #[.pointer (some ⟨pb, 0, none⟩)] w fun e w' => NmPost pb tb cap T (namesP T s) w e w' := by
 have hpl := h.lt
 have htl := h.tlt
 have hsz := h.size
 obtain ⟨i0, hi, hz0, hz1, hz2⟩ := info_parts Tryz.infoName
 have hN := name_any h hg
 have hms := mon_nameP hT s hg
 have HE : Hid (namesP T s = namesLoop T T.length [((nameP T s).1.1, (nameP T s).1.2)] (nameP T s).2) := rfl
 generalize (nameP T s).1.1 = nn at *
 generalize (nameP T s).1.2 = np at *
 generalize (nameP T s).2 = s1 at *
 go_enter Tryz.func190, Tryz.ntmps190
 go_wp2_with (go_at_call 189; refine hN.mono ?_; rintro e w2 ⟨rfl, hP2, hk2⟩)
 go_loopw [3] (fun v wr => ∃ (s' : PS) (acc : List (ByteArray × Nat)) (n : Nat), wr.ownsRow w.heap.size 210 2 v acc.length (namesC acc) /\ PW pb tb cap T wr s' /\ Par pb w wr /\ Good T s' /\ T.length <= s'.next + n /\ acc.length <= s'.next + 1 /\ Hid (namesLoop T n acc s' = namesP T s)) (fun _ wr => T.length - nextOf pb wr)
 case atStart =>
  have hs2 := hk2.size
  exact ⟨s1, [(nn, np)], T.length, World.ownsRow_lit w2 #[.string nn, .int .i64 np] 1 (by omega) (by unfold maxLen; omega) rfl, hP2.alloc _, hk2.alloc _, hms.1, by omega, by simp, HE.out.symm⟩
 case round =>
  obtain ⟨s', acc, n, hown, hP, hk, hg2, hn2, hacc, HL⟩ := hrel
  have hnx := nextOf_eq hP
  have hks := hk.size
  have hg2' : s'.next < T.length := hg2
  have hlt := hown.lt
  cases hs : sees T (bs [44]) s' with
  | true =>
   have hga := good_adv hT hg2 hs (bs_ne _ (by simp))
   have hma := mon_nameP hT (adv s') hga
   have hadv : (adv s').next = s'.next + 1 := rfl
   have hB := take_yes hP hg2 (bs [44]) hs
   obtain ⟨m, rfl⟩ : ∃ m, n = m + 1 := ⟨n - 1, by omega⟩
   have HL2 : Hid (namesLoop T m (acc ++ [((nameP T (adv s')).1.1, (nameP T (adv s')).1.2)]) (nameP T (adv s')).2 = namesP T s) := by show _ = _; rw [<- HL.out, namesLoop_go hs]
   have hN2 := fun w3 (hP3 : PW pb tb cap T w3 (adv s')) => name_any hP3 hga
   generalize (nameP T (adv s')).1.1 = n4 at *
   generalize (nameP T (adv s')).1.2 = p4 at *
   generalize (nameP T (adv s')).2 = s4 at *
   have hmn := hma.2
   clear HL hs
   go_wp2_with (first
    | (go_at_call 165; refine hB.mono ?_; rintro e w3 ⟨rfl, hP3, hk3⟩)
    | (go_at_call 189; refine (hN2 _ hP3).mono ?_; rintro e w4 ⟨rfl, hP4, hk4⟩)
    | (at_builtin; refine wpList_append_own2 rfl _ _ 216 rfl w.heap.size 210 i0 _ 2 24 Tryz.underlying216 hi hz0 hz1 hz2 rfl (by decide) _ _ _ rfl ((owns_par (owns_par hown hk3 hpl) hk4 hpl).alloc _) ⟨_, 0, none⟩ 1 1 [.string n4, .int .i64 p4] rfl rfl (cell_two_new _ _ _ _) ?h1 ?h63 ?hby ?hbase ?hh
       case h1 => intro u hu; simp at hu; rcases hu with rfl | rfl <;> rfl
       case h63 => unfold maxLen; omega
       case hby => omega
       case hbase => have := hk3.size; have := hk4.size; simp; omega
       intro v5 w5 hown5 hgrow5 hwhere5
       have X : Aside (w5.ownsRow w.heap.size 210 2 v5 (acc.length + 1) (namesC acc ++ [.string n4, .int .i64 p4]) /\ (w4.alloc (.cells #[.string n4, .int .i64 p4] 210)).grownBy w5 u3.ownBlock) := ⟨hown5, hgrow5⟩
       clear hown5 hgrow5 hwhere5))
   have hP5 : PW pb tb cap T w5 s4 := (hP4.alloc _).grown X.out.2 (fun k hk => (hlt k hk).1) hpl htl
   go_roundw
   case rel =>
    exact ⟨s4, acc ++ [(n4, p4)], m, by rw [List.length_append, namesC_append]; exact X.out.1, hP5,
     par_grown ((hk.trans (hk3.trans hk4)).alloc _) X.out.2 (fun k hk => (hlt k hk).1), hma.1, by omega, by rw [List.length_append]; simp; omega, HL2⟩
   case measure =>
    rw [nextOf_eq hP5, hnx]
    omega
  | false =>
   have hB := take_no hP hg2 (bs [44]) hs
   have HL2 : Hid (namesP T s = (acc, s')) := by show _ = _; rw [<- HL.out, namesLoop_stop hs]
   clear HL hs HE
   go_wp2_with (go_at_call 165; refine hB.mono ?_; rintro e w3 ⟨rfl, hP3, hk3⟩)
   go_ret
   refine ⟨_, rfl, ?_⟩
   rw [HL2.out]
   exact ⟨owns_par hown hk3 hpl, hP3, hk.trans hk3⟩
end
def GAll (Q : Nat -> Prop) (w : World) (vs : List Value) (es : List Gl) : Prop := vs.length = es.length /\ ∀ (j : Nat) v e, vs[j]? = some v -> es[j]? = some e -> RGl Q w v e
theorem GAll.keep {Q : Nat -> Prop} {w w' : World} {vs : List Value} {es : List Gl} (h : GAll Q w vs es) (hk : KeepQ Q w w') : GAll Q w' vs es := ⟨h.1, fun j v e hv he => (h.2 j v e hv he).keep hk⟩
theorem GAll.weak {Q Q' : Nat -> Prop} {w : World} {vs : List Value} {es : List Gl} (h : GAll Q w vs es) (hq : ∀ b, Q b -> b < w.heap.size -> Q' b) : GAll Q' w vs es := ⟨h.1, fun j v e hv he => (h.2 j v e hv he).weak hq⟩
theorem GAll.append {Q : Nat -> Prop} {w : World} {vs us : List Value} {es fs : List Gl} (h : GAll Q w vs es) (hx : GAll Q w us fs) : GAll Q w (vs ++ us) (es ++ fs) := by
 refine ⟨by simp [h.1, hx.1], fun j a b ha hb => ?_⟩
 by_cases hj : j < vs.length
 ·rw [List.getElem?_append_left hj] at ha
  rw [List.getElem?_append_left (by rw [<- h.1]; exact hj)] at hb
  exact h.2 j a b ha hb
 ·rw [List.getElem?_append_right (by omega)] at ha
  rw [List.getElem?_append_right (by rw [<- h.1]; omega)] at hb
  rw [h.1] at ha
  exact hx.2 _ a b ha hb
theorem GAll.one {Q : Nat -> Prop} {w : World} {v : Value} {e : Gl} (h : RGl Q w v e) : GAll Q w [v] [e] := by
 refine ⟨rfl, fun j a b ha hb => ?_⟩
 match j, ha, hb with
 | 0, ha, hb => simp at ha hb; subst ha hb; exact h
 | j + 1, ha, _ => simp at ha
theorem GAll.oneCell {Q : Nat -> Prop} {w : World} {vs : List Value} {es : List Gl} (h : GAll Q w vs es) : ∀ u ∈ vs, u.oneCell' = true := by
 intro u hu
 obtain ⟨j, hj, rfl⟩ := List.getElem_of_mem hu
 exact (h.2 j _ (es[j]'(by rw [<- h.1]; exact hj)) (List.getElem?_eq_getElem hj) (List.getElem?_eq_getElem _)).one
theorem GAll.grow {pb lo : Nat} {u v' : Value} {wr w3 w4 w5 : World} {e : TypeId} {n : Nat} {vs xs : List Value} {es fs : List Gl} (hpl : pb < lo) (hlo : lo <= wr.heap.size)
  (hall : GAll (Off lo u) wr vs es) (hown : wr.ownsRow lo e 1 u n vs) (hk3 : Par pb wr w3) (hk4 : Par pb w3 w4) (hx : GAll (From w3.heap.size) w4 xs fs)
  (hg : w4.grownBy w5 u.ownBlock) (hw : v'.ownBlock = u.ownBlock ∨ ∀ k, v'.ownBlock = some k -> w4.heap.size <= k) : GAll (Off lo v') w5 (vs ++ xs) (es ++ fs) := by
 have ha : GAll (Off lo u) w4 vs es := hall.keep (keepOff_par (hk3.trans hk4) hpl)
 have hb : GAll (Off lo u) w4 xs fs := hx.weak (fun b hb _ => ⟨by have := hk3.size; unfold From at hb; omega, fun he => by have := (hown.lt b he).2; have := hk3.size; unfold From at hb; omega⟩)
 have hc := ha.append hb
 have hd := hc.weak (Q' := fun b => Off lo u b /\ Off lo v' b) (fun b h1 h2 => ⟨h1, off_next hw b h1 h2⟩)
 exact (hd.keep ((keep_off hg).weak fun b h => h.1)).weak fun b h _ => h.2
section
variable {pb tb cap : Nat} {T : List Tok} {w : World} {s : PS}
theorem itemsLoop_stop {n : Nat} {l : List Gl} (h : sees T (bs [44]) s = false) : itemsLoop T n l s = (l, s) := by
 cases n with
 | zero => rfl
 | succ n => rw [itemsLoop, h]; rfl
theorem itemsLoop_go {n : Nat} {l : List Gl} (h : sees T (bs [44]) s = true) : itemsLoop T (n + 1) l s = itemsLoop T n (l ++ [(itemP T (adv s)).1]) (itemP T (adv s)).2 := by
 rw [itemsLoop, h]; rfl
def ItPost (pb tb cap : Nat) (T : List Tok) (r : List Gl × PS) (w : World) (e : Ending) (w' : World) : Prop :=
 ∃ v vs, e = .returned v /\ w'.ownsRow w.heap.size 175 1 v vs.length vs /\ GAll (From w.heap.size) w' vs r.1 /\ PW pb tb cap T w' r.2 /\ Par pb w w' /\ vs ≠ [] /\ vs.length <= r.2.next + 1
theorem items_any (hT : Toks T) (h : PW pb tb cap T w s) (hg : Good T s) :
  Calls Tryz.prog 166 #[.pointer (some ⟨pb, 0, none⟩)] w fun e w' => ItPost pb tb cap T (itemsP T s) w e w' := by
 have hpl := h.lt
 have htl := h.tlt
 have hsz := h.size
 obtain ⟨i0, hi, hz0, hz1, hz2⟩ := info_parts Tryz.infoGlobal
 have hN := item_any hT h hg
 have hms := mon_itemP hT s hg
 have HE : Hid (itemsP T s = ((itemsLoop T T.length [(itemP T s).1] (itemP T s).2).1, want T (bs [59]) (itemsLoop T T.length [(itemP T s).1] (itemP T s).2).2)) := rfl
 generalize itemP T s = r1 at *
 go_enter Tryz.func166, Tryz.ntmps166
 go_wp2_with (go_at_call 188; refine hN.mono ?_; rintro e w2 ⟨v2, rfl, hR2, hP2, hk2⟩; have hc2 := hR2.cells)
 go_loopw [3] (fun v wr => ∃ (s' : PS) (vs : List Value) (acc : List Gl) (n : Nat), wr.ownsRow w.heap.size 175 1 v vs.length vs /\ GAll (Off w.heap.size v) wr vs acc /\ PW pb tb cap T wr s' /\ Par pb w wr /\ Good T s' /\ T.length <= s'.next + n /\ acc.length <= s'.next + 1 /\ vs ≠ [] /\ Hid (itemsLoop T n acc s' = itemsLoop T T.length [r1.1] r1.2)) (fun _ wr => T.length - nextOf pb wr)
 case atStart =>
  have hs2 := hk2.size
  have hR2' := hR2.weak (Q' := Off w.heap.size (.slice (some ⟨w2.heap.size, 0, none⟩) 1 1)) (fun b hb hl => ⟨by unfold From at hb; omega, by simp [Value.ownBlock]; omega⟩)
  exact ⟨r1.2, [v2], [r1.1], T.length, World.ownsRow_lit w2 #[v2] 1 (by omega) (by unfold maxLen; omega) rfl, .one (hR2'.keep ⟨by simp, fun b hb hl => Below.heap_alloc _ _ _ hl⟩), hP2.alloc _, hk2.alloc _, hms.1, by omega, by simp, by simp, rfl⟩
 case round =>
  obtain ⟨s', vs, acc, n, hown, hall, hP, hk, hg2, hn2, hacc, hne, HL⟩ := hrel
  have hnx := nextOf_eq hP
  have hks := hk.size
  have hg2' : s'.next < T.length := hg2
  have hlt := hown.lt
  have hvl := hall.1
  cases hs : sees T (bs [44]) s' with
  | true =>
   have hga := good_adv hT hg2 hs (bs_ne _ (by simp))
   have hma := mon_itemP hT (adv s') hga
   have hadv : (adv s').next = s'.next + 1 := rfl
   have hB := take_yes hP hg2 (bs [44]) hs
   obtain ⟨m, rfl⟩ : ∃ m, n = m + 1 := ⟨n - 1, by omega⟩
   have HL2 : Hid (itemsLoop T m (acc ++ [(itemP T (adv s')).1]) (itemP T (adv s')).2 = itemsLoop T T.length [r1.1] r1.2) := by show _ = _; rw [<- HL.out, itemsLoop_go hs]
   have hN2 := fun w3 (hP3 : PW pb tb cap T w3 (adv s')) => item_any hT hP3 hga
   generalize itemP T (adv s') = r4 at *
   have hmn := hma.2
   clear HL hs
   go_wp2_with (first
    | (go_at_call 165; refine hB.mono ?_; rintro e w3 ⟨rfl, hP3, hk3⟩)
    | (go_at_call 188; refine (hN2 _ hP3).mono ?_; rintro e w4 ⟨v4, rfl, hR4, hP4, hk4⟩; have hc4 := hR4.cells; have ho4 := hR4.one)
    | (at_builtin; refine wpList_append_own2 rfl _ _ 114 rfl w.heap.size 175 i0 _ 1 16 Tryz.underlying114 hi hz0 hz1 hz2 rfl (by decide) _ _ _ rfl ((owns_par (owns_par hown hk3 hpl) hk4 hpl).alloc _) ⟨_, 0, none⟩ 1 1 [v4] rfl rfl (cell_one_new _ _ _) ?h1 ?h63 ?hby ?hbase ?hh
       case h1 => intro u hu; simp at hu; subst hu; exact ho4
       case h63 => unfold maxLen; omega
       case hby => omega
       case hbase => have := hk3.size; have := hk4.size; simp; omega
       intro v5 w5 hown5 hgrow5 hwhere5
       have X : Aside (w5.ownsRow w.heap.size 175 1 v5 (vs.length + 1) (vs ++ [v4]) /\ (w4.alloc (.cells #[v4] 175)).grownBy w5 u3.ownBlock /\ (v5.ownBlock = u3.ownBlock ∨ ∀ k, v5.ownBlock = some k -> (w4.alloc (.cells #[v4] 175)).heap.size <= k)) := ⟨hown5, hgrow5, hwhere5⟩
       clear hown5 hgrow5 hwhere5))
   have hP5 : PW pb tb cap T w5 r4.2 := (hP4.alloc _).grown X.out.2.1 (fun k hk => (hlt k hk).1) hpl htl
   have hR4' : GAll (From w3.heap.size) (w4.alloc (.cells #[v4] 175)) [v4] [r4.1] := .one (hR4.keep ⟨by simp, fun b hb hl => Below.heap_alloc _ _ _ hl⟩)
   go_roundw
   case rel =>
    exact ⟨r4.2, vs ++ [v4], acc ++ [r4.1], m, by rw [List.length_append]; exact X.out.1, GAll.grow hpl hks hall hown hk3 (hk4.alloc _) hR4' X.out.2.1 X.out.2.2, hP5,
     par_grown ((hk.trans (hk3.trans hk4)).alloc _) X.out.2.1 (fun k hk => (hlt k hk).1), hma.1, by omega, by rw [List.length_append]; simp; omega, by simp, HL2⟩
   case measure =>
    rw [nextOf_eq hP5, hnx]
    omega
  | false =>
   have hB := take_no hP hg2 (bs [44]) hs
   have HL2 : Hid (itemsP T s = (acc, want T (bs [59]) s')) := by show _ = _; rw [HE.out, <- HL.out, itemsLoop_stop hs]
   have hw9 := (mon_want hT (f := bs [59]) (bs_ne _ (by simp)) hg2).2
   clear HL hs HE
   go_wp2_with (first
    | (go_at_call 165; refine hB.mono ?_; rintro e w3 ⟨rfl, hP3, hk3⟩)
    | (go_at_call 144; refine (want_any hP3 hg2 (bs [59])).mono ?_; rintro e w4 ⟨rfl, hP4, hk4⟩))
   go_ret
   have hk34 := hk3.trans hk4
   refine ⟨_, vs, rfl, owns_par hown hk34 hpl, ?_⟩
   rw [HL2.out]
   exact ⟨(hall.keep (keepOff_par hk34 hpl)).weak (fun b hb _ => hb.1), hP4, hk.trans hk34, hne, by show vs.length <= (want T (bs [59]) s').next + 1; omega⟩
end
theorem owns_slice {w : World} {base : Nat} {e : TypeId} {size : Nat} {v : Value} {n : Nat} {xs : List Value} (h : w.ownsRow base e size v n xs) (hn : 0 < n) :
  ∃ g c, v = .slice (some ⟨g, 0, none⟩) n c /\ base <= g /\ g < w.heap.size /\ ∀ j u, xs[j]? = some u -> w.cell? ((⟨g, 0, none⟩ : Addr).add j) = some u := by
 have hlt := h.lt
 rcases id h.2 with ⟨rfl, h0⟩ | ⟨g, c, cur, rfl, hg, hh, r⟩
 ·omega
 ·exact ⟨g, c, rfl, hg, (Array.getElem?_eq_some_iff.1 hh).1, fun j u hj => h.cells (g := g) rfl j u hj⟩
theorem sliceV_one {Q : Nat -> Prop} {w : World} {v : Value} {vs : List Value} (h : SliceV Q w v vs) : v.oneCell' = true := by rcases h with ⟨rfl, _⟩ | ⟨b, c, rfl, _⟩ <;> rfl
theorem sliceN_one {Q : Nat -> Prop} {w : World} {v : Value} {vs : List (ByteArray × Nat)} (h : SliceN Q w v vs) : v.oneCell' = true := by rcases h with ⟨rfl, _⟩ | ⟨b, c, rfl, _⟩ <;> rfl
section
variable {pb tb cap : Nat} {T : List Tok} {w : World} {s : PS}
theorem len_namesLoop (hT : Toks T) : ∀ (n : Nat) (l : List (ByteArray × Nat)) (s : PS), Good T s -> l ≠ [] -> (namesLoop T n l s).1.length + s.next <= l.length + (namesLoop T n l s).2.next /\ (namesLoop T n l s).1 ≠ []
 | 0, l, s, _, hl => ⟨Nat.le_refl _, hl⟩
 | n + 1, l, s, hg, hl => by
  rw [namesLoop]
  split
  ·rename_i h
   have hga := good_adv hT hg h (bs_ne _ (by simp))
   have h1 := mon_nameP hT (adv s) hga
   have h2 := len_namesLoop hT n (l ++ [(nameP T (adv s)).1]) (nameP T (adv s)).2 h1.1 (by simp)
   have e : (adv s).next = s.next + 1 := rfl
   have e2 : (l ++ [(nameP T (adv s)).1]).length = l.length + 1 := by simp
   have := h1.2
   exact ⟨by omega, h2.2⟩
  ·exact ⟨Nat.le_refl _, hl⟩
theorem len_namesP (hT : Toks T) (s : PS) (hg : Good T s) : (namesP T s).1.length + s.next <= 1 + (namesP T s).2.next /\ (namesP T s).1 ≠ [] := by
 have h1 := mon_nameP hT s hg
 have h2 := len_namesLoop hT T.length [(nameP T s).1] (nameP T s).2 h1.1 (by simp)
 have e : namesP T s = namesLoop T T.length [(nameP T s).1] (nameP T s).2 := rfl
 have e2 : [(nameP T s).1].length = 1 := rfl
 rw [e]
 have := h1.2
 exact ⟨by omega, h2.2⟩
theorem localsLoop_stop {n : Nat} {l : List (ByteArray × Nat)} (h : sees T (bs [118, 97, 114]) s = false) : localsLoop T n l s = (l, s) := by
 cases n with
 | zero => rfl
 | succ n => rw [localsLoop, h]; rfl
theorem localsLoop_go {n : Nat} {l : List (ByteArray × Nat)} (h : sees T (bs [118, 97, 114]) s = true) : localsLoop T (n + 1) l s = localsLoop T n (l ++ (namesP T (adv s)).1) (want T (bs [59]) (namesP T (adv s)).2) := by
 rw [localsLoop, h]; rfl
def RoPost (pb tb cap : Nat) (T : List Tok) (r : Ro × PS) (w : World) (e : Ending) (w' : World) : Prop :=
 ∃ vp vl vb vs, e = .returned (.agg #[.string r.1.name.1, .int .i64 r.1.name.2, vp, vl, vb]) /\ SliceN (From w.heap.size) w' vp r.1.params /\ SliceN (From w.heap.size) w' vl r.1.locals /\ SliceV (From w.heap.size) w' vb vs /\ SAll (From w.heap.size) w' vs r.1.body /\ PW pb tb cap T w' r.2 /\ Par pb w w'
theorem routine_any (hT : Toks T) (h : PW pb tb cap T w s) (hg : Good T s) :
  Calls Tryz.prog 167 #[.pointer (some ⟨pb, 0, none⟩)] w fun e w' => RoPost pb tb cap T (routineP T s) w e w' := by
 have hpl := h.lt
 have htl := h.tlt
 have hsz := h.size
 obtain ⟨i0, hi, hz0, hz1, hz2⟩ := info_parts Tryz.infoName
 have hN := fun o => name_any (h.alloc o) hg
 have g1 := (mon_nameP hT s hg).1
 have g2 := (mon_want hT (f := bs [40]) (bs_ne _ (by simp)) g1).1
 have hgH := (mon_routineHead hT s hg).1
 have g3 := (mon_want hT (f := bs [41]) (bs_ne _ (by simp)) hgH).1
 have hgL := (mon_routineLocals hT s hg).1
 have hB := fun w1 (hP1 : PW pb tb cap T w1 (routineLocals T s).2) => body_any hT hP1 hgL
 have hgB := (mon_bodyP hT _ hgL).1
 have HE : Hid (routineP T s = (⟨((nameP T s).1.1, (nameP T s).1.2), (routineHead T s).1, (routineLocals T s).1, (bodyP T (routineLocals T s).2).1⟩, want T (bs [59]) (bodyP T (routineLocals T s).2).2)) := rfl
 have HH : Hid (routineHead T s = paramsP T (want T (bs [40]) (nameP T s).2)) := rfl
 have HLo : Hid (routineLocals T s = localsLoop T T.length [] (want T (bs [41]) (routineHead T s).2)) := rfl
 generalize bodyP T (routineLocals T s).2 = rb at *
 generalize routineLocals T s = rl at *
 generalize routineHead T s = rh at *
 generalize (nameP T s).1.1 = nn at *
 generalize (nameP T s).1.2 = np at *
 generalize (nameP T s).2 = s1 at *
 cases hs : sees T (bs [41]) (want T (bs [40]) s1) with
 | true =>
  have HP : Hid (rh = ([], want T (bs [40]) s1)) := by show _ = _; rw [HH.out]; unfold paramsP; rw [hs]; rfl
  have eh : rh.2 = want T (bs [40]) s1 := by rw [HP.out]
  rw [<- eh] at hs g2
  have HP1 : Hid (rh.1 = []) := by show _ = _; rw [HP.out]
  have HS2 : Hid (want T (bs [40]) s1 = rh.2) := eh.symm
  clear HH HP eh
  go_enter Tryz.func167, Tryz.ntmps167
  go_wp2_with (first
   | (go_at_call 189; refine (hN _).mono ?_; rintro e w1 ⟨rfl, hP1, hk1⟩; have hl1 := hP1.lt; have hs1 : w.heap.size + 1 <= w1.heap.size := by (have := hk1.size; simp at this; omega))
   | (go_at_call 144; refine (want_any hP3 hgH (bs [41])).mono ?_; rintro e w4 ⟨rfl, hP4, hk4⟩)
   | (go_at_call 144; refine (want_any (hP1.alloc _) g1 (bs [40])).mono ?_; rintro e w2 ⟨rfl, hP2', hk2⟩; have hP2 : PW pb tb cap T w2 rh.2 := HS2.out ▸ hP2')
   | (go_at_call 187; refine (sees_any hP2 hgH (bs [41])).mono ?_; rintro e w3 ⟨rfl, hb3⟩; have hP3 := hP2.below hb3; have hk3 := Par.of_below (pb := pb) hb3))
  have hNp : SliceN (From (w.heap.size + 1)) w4 (.slice none 0 0) rh.1 := .inl ⟨rfl, HP1.out⟩
  have hk14 := (hk2.trans hk3).trans hk4
  have hk4w : Par pb (w.alloc (.cells #[.string ⟨#[]⟩, .int .i64 0, .slice none 0 0, .slice none 0 0, .slice none 0 0] 218)) w4 := (hk1.alloc _).trans hk14
  have hs4 : w1.heap.size + 1 <= w4.heap.size := by have := hk14.size; simp at this; omega
  have hl4 := hP4.lt
  have htl4 := hP4.tlt
  clear hk2 hk3 hk4
  go_loopw [5] (fun v wr => ∃ (s' : PS) (acc : List (ByteArray × Nat)) (n : Nat), wr.ownsRow w4.heap.size 210 2 v acc.length (namesC acc) /\ PW pb tb cap T wr s' /\ Par pb w4 wr /\ Good T s' /\ T.length <= s'.next + n /\ acc.length <= s'.next /\ Hid (localsLoop T n acc s' = rl)) (fun _ wr => T.length - nextOf pb wr)
  case atStart => exact ⟨want T (bs [41]) rh.2, [], T.length, World.ownsRow_nil _ _ _ _, hP4, Par.refl _ _, g3, by omega, by simp, HLo.out.symm⟩
  case round =>
   obtain ⟨s', acc, n, hown, hP, hk, hg2, hn2, hacc, HL⟩ := hrel
   have hnx := nextOf_eq hP
   have hks := hk.size
   have hg2' : s'.next < T.length := hg2
   have hlt := hown.lt
   cases hv : sees T (bs [118, 97, 114]) s' with
   | true =>
    have hga := good_adv hT hg2 hv (bs_ne _ (by simp))
    have hma := mon_namesP hT (adv s') hga
    have hmw := mon_want hT (f := bs [59]) (bs_ne _ (by simp)) hma.1
    have hlen := len_namesP hT (adv s') hga
    have hadv : (adv s').next = s'.next + 1 := rfl
    have hBv := take_yes hP hg2 (bs [118, 97, 114]) hv
    obtain ⟨m, rfl⟩ : ∃ m, n = m + 1 := ⟨n - 1, by omega⟩
    have HL2 : Hid (localsLoop T m (acc ++ (namesP T (adv s')).1) (want T (bs [59]) (namesP T (adv s')).2) = rl) := by show _ = _; rw [<- HL.out, localsLoop_go hv]
    have hN2 := fun w5 (hP5 : PW pb tb cap T w5 (adv s')) => names_any hT hP5 hga
    generalize namesP T (adv s') = r4 at *
    have hmn := hma.2
    have hmg : r4.2.next < T.length := hma.1
    have hmw2 := hmw.2
    have hl1' := hlen.1
    have hl2' : 0 < r4.1.length := List.length_pos_iff.2 hlen.2
    clear HL hv hlen
    go_wp2_with (first
     | (go_at_call 165; refine hBv.mono ?_; rintro e w5 ⟨rfl, hP5, hk5⟩)
     | (go_at_call 190; refine (hN2 _ hP5).mono ?_; rintro e w6 ⟨v6, rfl, hO6, hP6, hk6⟩; obtain ⟨g6, c6, rfl, hg6, hg6', hc6⟩ := owns_slice hO6 hl2')
     | (at_builtin; refine wpList_append_own2 rfl _ _ 216 rfl w4.heap.size 210 i0 _ 2 24 Tryz.underlying216 hi hz0 hz1 hz2 rfl (by decide) _ _ _ rfl (owns_par (owns_par hown hk5 hl4) hk6 hl4) ⟨g6, 0, none⟩ r4.1.length c6 (namesC r4.1) rfl (namesC_len _) hc6 (namesC_one _) ?xh63 ?xhby ?xhbase ?xhh
        case xh63 => unfold maxLen; omega
        case xhby => omega
        case xhbase => have := hk5.size; have := hk6.size; omega
        intro v7 w7 hown7 hgrow7 hwhere7
        have X : Aside (w7.ownsRow w4.heap.size 210 2 v7 (acc.length + r4.1.length) (namesC acc ++ namesC r4.1) /\ w6.grownBy w7 u5.ownBlock) := ⟨hown7, hgrow7⟩
        have hP7 : PW pb tb cap T w7 r4.2 := hP6.grown hgrow7 (fun k hk => (hlt k hk).1) hl4 htl4
        clear hown7 hgrow7 hwhere7)
     | (go_at_call 144; refine (want_any hP7 hma.1 (bs [59])).mono ?_; rintro e w8 ⟨rfl, hP8, hk8⟩))
    go_roundw
    case rel =>
     exact ⟨want T (bs [59]) r4.2, acc ++ r4.1, m, by rw [List.length_append, namesC_append]; exact owns_par X.out.1 hk8 hl4, hP8,
      (par_grown (hk.trans (hk5.trans hk6)) X.out.2 (fun k hk => (hlt k hk).1)).trans hk8, hmw.1, by omega, by rw [List.length_append]; omega, HL2⟩
    case measure =>
     rw [nextOf_eq hP8, hnx]
     omega
   | false =>
    have hBv := take_no hP hg2 (bs [118, 97, 114]) hv
    have HL2 : Hid (rl = (acc, s')) := by show _ = _; rw [<- HL.out, localsLoop_stop hv]
    have hrl2 : rl.2 = s' := by rw [HL2.out]
    have hrl1 : Hid (rl.1 = acc) := by show _ = _; rw [HL2.out]
    have hBd := fun w1 (hP1 : PW pb tb cap T w1 s') => hB w1 (hrl2 ▸ hP1)
    clear HL hv HL2 hrl2
    go_wp2_with (first
     | (go_at_call 165; refine hBv.mono ?_; rintro e w5 ⟨rfl, hP5, hk5⟩)
     | (go_at_call 143; refine (hBd _ hP5).mono ?_; rintro e w6 ⟨vb, vsb, rfl, hSb, hAb, hP6, hk6⟩; have hcb := hSb.cells; have htb := run_store_one (v := vb) (sliceV_one hSb))
     | (go_at_call 144; refine (want_any hP6 hgB (bs [59])).mono ?_; rintro e w7 ⟨rfl, hP7, hk7⟩
        have hk47 := ((hk.trans hk5).trans hk6).trans hk7
        obtain ⟨q0, q1, hq⟩ := (hk4w.trans hk47).new hpl
        obtain ⟨q3, q4, hq'⟩ := (hk14.trans hk47).new hl1
        have hcl := (sliceN_of_owns hown).cells
        have htl2 := run_store_one (v := u5) (sliceN_one (sliceN_of_owns hown))
        have htp := run_store_one (v := .slice none 0 0) (sliceN_one hNp)))
    refine bodyPost_ret (v := .agg #[.string nn, .int .i64 np, .slice none 0 0, u5, vb]) (by simp [results, Tryz.results167, go_sem, q0]) rfl ?_
    go_light
    refine ⟨_, _, _, vsb, by rw [HE.out], ?_⟩
    rw [HE.out]
    show SliceN _ _ _ rh.1 /\ SliceN _ _ _ rl.1 /\ SliceV _ _ _ _ /\ SAll _ _ _ rb.1 /\ PW _ _ _ _ _ (want T (bs [59]) rb.2) /\ _
    rw [hrl1.out]
    have b5 := hk5.size
    have hQ : ∀ i, From (w.heap.size + 1) i -> i ≠ w.heap.size := fun i hi => by unfold From at hi; omega
    have kF := ((((KeepQ.refl (From (w.heap.size + 1)) w7).setCell ⟨w.heap.size, 0, none⟩ (.string nn) hQ).setCell ⟨w.heap.size, 1, none⟩ (.int .i64 np) hQ).setCell ⟨w.heap.size, 2, none⟩ (.slice none 0 0) hQ).setCell ⟨w.heap.size, 3, none⟩ u5 hQ |>.setCell ⟨w.heap.size, 4, none⟩ vb hQ
    have up : ∀ (W : World) b, From (w.heap.size + 1) b -> b < W.heap.size -> From w.heap.size b := fun W b hb _ => by unfold From at *; omega
    refine ⟨((hNp.keep (hk47.keepQ (by omega))).keep kF).weak (up _),
     ((((sliceN_of_owns hown).weak (Q' := From (w.heap.size + 1)) fun b hb _ => by unfold From at *; omega).keep (((hk5.trans hk6).trans hk7).keepQ (by omega))).keep kF).weak (up _),
     (((hSb.weak (Q' := From (w.heap.size + 1)) fun b hb _ => by unfold From at *; omega).keep (hk7.keepQ (by omega))).keep kF).weak (up _),
     (((hAb.weak (Q' := From (w.heap.size + 1)) fun b hb _ => by unfold From at *; omega).keep (hk7.keepQ (by omega))).keep kF).weak (up _),
     ((((hP7.setOther _ _ ?_ ?_).setOther _ _ ?_ ?_).setOther _ _ ?_ ?_).setOther _ _ ?_ ?_).setOther _ _ ?_ ?_,
     ((((((((Par.refl _ _).alloc _).trans hk4w).trans hk47).setNew ?_ _).setNew ?_ _).setNew ?_ _).setNew ?_ _).setNew ?_ _⟩
    all_goals (simp; try omega)
 | false =>
  have HP : Hid (rh = namesP T (want T (bs [40]) s1)) := by show _ = _; rw [HH.out]; unfold paramsP; rw [hs]; rfl
  have hNm := fun w3 (hP3 : PW pb tb cap T w3 (want T (bs [40]) s1)) => names_any hT hP3 g2
  rw [<- HP.out] at hNm
  clear HH
  go_enter Tryz.func167, Tryz.ntmps167
  go_wp2_with (first
   | (go_at_call 189; refine (hN _).mono ?_; rintro e w1 ⟨rfl, hP1, hk1⟩; have hl1 := hP1.lt; have hs1 : w.heap.size + 1 <= w1.heap.size := by (have := hk1.size; simp at this; omega))
   | (go_at_call 144; refine (want_any hP33 hgH (bs [41])).mono ?_; rintro e w4 ⟨rfl, hP4, hk4⟩)
   | (go_at_call 144; refine (want_any (hP1.alloc _) g1 (bs [40])).mono ?_; rintro e w2 ⟨rfl, hP2, hk2⟩)
   | (go_at_call 187; refine (sees_any hP2 g2 (bs [41])).mono ?_; rintro e w33 ⟨rfl, hb3⟩; have hP3 := hP2.below hb3; have hk33 := Par.of_below (pb := pb) hb3)
   | (go_at_call 190; refine (hNm _ hP3).mono ?_; rintro e w3 ⟨vp, rfl, hOp, hP33, hk34⟩; have hk3 := hk33.trans hk34; have hcp := (sliceN_of_owns hOp).cells))
  have hNp : SliceN (From (w.heap.size + 1)) w4 vp rh.1 := ((sliceN_of_owns hOp).weak fun b hb _ => by unfold From at *; have a1 := hk2.size; have a2 := hk33.size; simp at a1; omega).keep (hk4.keepQ (by omega))
  have hk14 := (hk2.trans hk3).trans hk4
  have hk4w : Par pb (w.alloc (.cells #[.string ⟨#[]⟩, .int .i64 0, .slice none 0 0, .slice none 0 0, .slice none 0 0] 218)) w4 := (hk1.alloc _).trans hk14
  have hs4 : w1.heap.size + 1 <= w4.heap.size := by have := hk14.size; simp at this; omega
  have hl4 := hP4.lt
  have htl4 := hP4.tlt
  clear hk2 hk3 hk4
  go_loopw [5] (fun v wr => ∃ (s' : PS) (acc : List (ByteArray × Nat)) (n : Nat), wr.ownsRow w4.heap.size 210 2 v acc.length (namesC acc) /\ PW pb tb cap T wr s' /\ Par pb w4 wr /\ Good T s' /\ T.length <= s'.next + n /\ acc.length <= s'.next /\ Hid (localsLoop T n acc s' = rl)) (fun _ wr => T.length - nextOf pb wr)
  case atStart => exact ⟨want T (bs [41]) rh.2, [], T.length, World.ownsRow_nil _ _ _ _, hP4, Par.refl _ _, g3, by omega, by simp, HLo.out.symm⟩
  case round =>
   obtain ⟨s', acc, n, hown, hP, hk, hg2, hn2, hacc, HL⟩ := hrel
   have hnx := nextOf_eq hP
   have hks := hk.size
   have hg2' : s'.next < T.length := hg2
   have hlt := hown.lt
   cases hv : sees T (bs [118, 97, 114]) s' with
   | true =>
    have hga := good_adv hT hg2 hv (bs_ne _ (by simp))
    have hma := mon_namesP hT (adv s') hga
    have hmw := mon_want hT (f := bs [59]) (bs_ne _ (by simp)) hma.1
    have hlen := len_namesP hT (adv s') hga
    have hadv : (adv s').next = s'.next + 1 := rfl
    have hBv := take_yes hP hg2 (bs [118, 97, 114]) hv
    obtain ⟨m, rfl⟩ : ∃ m, n = m + 1 := ⟨n - 1, by omega⟩
    have HL2 : Hid (localsLoop T m (acc ++ (namesP T (adv s')).1) (want T (bs [59]) (namesP T (adv s')).2) = rl) := by show _ = _; rw [<- HL.out, localsLoop_go hv]
    have hN2 := fun w5 (hP5 : PW pb tb cap T w5 (adv s')) => names_any hT hP5 hga
    generalize namesP T (adv s') = r4 at *
    have hmn := hma.2
    have hmg : r4.2.next < T.length := hma.1
    have hmw2 := hmw.2
    have hl1' := hlen.1
    have hl2' : 0 < r4.1.length := List.length_pos_iff.2 hlen.2
    clear HL hv hlen
    go_wp2_with (first
     | (go_at_call 165; refine hBv.mono ?_; rintro e w5 ⟨rfl, hP5, hk5⟩)
     | (go_at_call 190; refine (hN2 _ hP5).mono ?_; rintro e w6 ⟨v6, rfl, hO6, hP6, hk6⟩; obtain ⟨g6, c6, rfl, hg6, hg6', hc6⟩ := owns_slice hO6 hl2')
     | (at_builtin; refine wpList_append_own2 rfl _ _ 216 rfl w4.heap.size 210 i0 _ 2 24 Tryz.underlying216 hi hz0 hz1 hz2 rfl (by decide) _ _ _ rfl (owns_par (owns_par hown hk5 hl4) hk6 hl4) ⟨g6, 0, none⟩ r4.1.length c6 (namesC r4.1) rfl (namesC_len _) hc6 (namesC_one _) ?yh63 ?yhby ?yhbase ?yhh
        case yh63 => unfold maxLen; omega
        case yhby => omega
        case yhbase => have := hk5.size; have := hk6.size; omega
        intro v7 w7 hown7 hgrow7 hwhere7
        have X : Aside (w7.ownsRow w4.heap.size 210 2 v7 (acc.length + r4.1.length) (namesC acc ++ namesC r4.1) /\ w6.grownBy w7 u5.ownBlock) := ⟨hown7, hgrow7⟩
        have hP7 : PW pb tb cap T w7 r4.2 := hP6.grown hgrow7 (fun k hk => (hlt k hk).1) hl4 htl4
        clear hown7 hgrow7 hwhere7)
     | (go_at_call 144; refine (want_any hP7 hma.1 (bs [59])).mono ?_; rintro e w8 ⟨rfl, hP8, hk8⟩))
    go_roundw
    case rel =>
     exact ⟨want T (bs [59]) r4.2, acc ++ r4.1, m, by rw [List.length_append, namesC_append]; exact owns_par X.out.1 hk8 hl4, hP8,
      (par_grown (hk.trans (hk5.trans hk6)) X.out.2 (fun k hk => (hlt k hk).1)).trans hk8, hmw.1, by omega, by rw [List.length_append]; omega, HL2⟩
    case measure =>
     rw [nextOf_eq hP8, hnx]
     omega
   | false =>
    have hBv := take_no hP hg2 (bs [118, 97, 114]) hv
    have HL2 : Hid (rl = (acc, s')) := by show _ = _; rw [<- HL.out, localsLoop_stop hv]
    have hrl2 : rl.2 = s' := by rw [HL2.out]
    have hrl1 : Hid (rl.1 = acc) := by show _ = _; rw [HL2.out]
    have hBd := fun w1 (hP1 : PW pb tb cap T w1 s') => hB w1 (hrl2 ▸ hP1)
    clear HL hv HL2 hrl2
    go_wp2_with (first
     | (go_at_call 165; refine hBv.mono ?_; rintro e w5 ⟨rfl, hP5, hk5⟩)
     | (go_at_call 143; refine (hBd _ hP5).mono ?_; rintro e w6 ⟨vb, vsb, rfl, hSb, hAb, hP6, hk6⟩; have hcb := hSb.cells; have htb := run_store_one (v := vb) (sliceV_one hSb))
     | (go_at_call 144; refine (want_any hP6 hgB (bs [59])).mono ?_; rintro e w7 ⟨rfl, hP7, hk7⟩
        have hk47 := ((hk.trans hk5).trans hk6).trans hk7
        obtain ⟨q0, q1, hq⟩ := (hk4w.trans hk47).new hpl
        obtain ⟨q3, q4, hq'⟩ := (hk14.trans hk47).new hl1
        have hcl := (sliceN_of_owns hown).cells
        have htl2 := run_store_one (v := u5) (sliceN_one (sliceN_of_owns hown))
        have htp := run_store_one (v := vp) (sliceN_one hNp)))
    refine bodyPost_ret (v := .agg #[.string nn, .int .i64 np, vp, u5, vb]) (by simp [results, Tryz.results167, go_sem, q0]) rfl ?_
    go_light
    refine ⟨_, _, _, vsb, by rw [HE.out], ?_⟩
    rw [HE.out]
    show SliceN _ _ _ rh.1 /\ SliceN _ _ _ rl.1 /\ SliceV _ _ _ _ /\ SAll _ _ _ rb.1 /\ PW _ _ _ _ _ (want T (bs [59]) rb.2) /\ _
    rw [hrl1.out]
    have b5 := hk5.size
    have hQ : ∀ i, From (w.heap.size + 1) i -> i ≠ w.heap.size := fun i hi => by unfold From at hi; omega
    have kF := ((((KeepQ.refl (From (w.heap.size + 1)) w7).setCell ⟨w.heap.size, 0, none⟩ (.string nn) hQ).setCell ⟨w.heap.size, 1, none⟩ (.int .i64 np) hQ).setCell ⟨w.heap.size, 2, none⟩ (vp) hQ).setCell ⟨w.heap.size, 3, none⟩ u5 hQ |>.setCell ⟨w.heap.size, 4, none⟩ vb hQ
    have up : ∀ (W : World) b, From (w.heap.size + 1) b -> b < W.heap.size -> From w.heap.size b := fun W b hb _ => by unfold From at *; omega
    refine ⟨((hNp.keep (hk47.keepQ (by omega))).keep kF).weak (up _),
     ((((sliceN_of_owns hown).weak (Q' := From (w.heap.size + 1)) fun b hb _ => by unfold From at *; omega).keep (((hk5.trans hk6).trans hk7).keepQ (by omega))).keep kF).weak (up _),
     (((hSb.weak (Q' := From (w.heap.size + 1)) fun b hb _ => by unfold From at *; omega).keep (hk7.keepQ (by omega))).keep kF).weak (up _),
     (((hAb.weak (Q' := From (w.heap.size + 1)) fun b hb _ => by unfold From at *; omega).keep (hk7.keepQ (by omega))).keep kF).weak (up _),
     ((((hP7.setOther _ _ ?_ ?_).setOther _ _ ?_ ?_).setOther _ _ ?_ ?_).setOther _ _ ?_ ?_).setOther _ _ ?_ ?_,
     ((((((((Par.refl _ _).alloc _).trans hk4w).trans hk47).setNew ?_ _).setNew ?_ _).setNew ?_ _).setNew ?_ _).setNew ?_ _⟩
    all_goals (simp; try omega)
end
end Go.Proofs.YtklobognaldjpaaGreat
