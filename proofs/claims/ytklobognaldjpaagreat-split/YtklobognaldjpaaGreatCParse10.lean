/- Expressions: the levels from factors up. Expressions: from factors to whole ones. Appending to a slice of the call's own: where the row lies then. Arguments, an index, a factor. A factor that begins w -/
import Derived.Test.YtklobognaldjpaaGreatCParse5
import Derived.Test.YtklobognaldjpaaGreatCPure5
set_option maxRecDepth 1000000
set_option maxHeartbeats 2000000
namespace Go.Proofs.YtklobognaldjpaaGreat
open Go.RowKit
def nextOf (pb : Nat) (w : World) : Nat := (intOf ((w.cell? ⟨pb, 3, none⟩).getD undef)).toNat
section
variable {pb tb cap : Nat} {T : List Tok} {w : World} {s : PS}
theorem nextOf_eq (h : PW pb tb cap T w s) : nextOf pb w = s.next := by unfold nextOf; rw [h.next]; simp [intOf]
theorem seesAny_good (hT : Toks T) (hg : Good T s) {fs : List ByteArray} (hfs : ∀ f ∈ fs, f.toList ≠ []) (h : seesAny T fs s = true) : Good T (adv s) := by
 unfold seesAny at h
 rw [List.any_eq_true] at h
 obtain ⟨f, hf, h⟩ := h
 exact good_adv hT hg h (hfs f hf)
theorem chainLoop_stop {pf : PS -> Ex × PS} {fs : List ByteArray} {n : Nat} {l : Ex} (h : seesAny T fs s = false) : chainLoop T pf fs n l s = (l, s) := by
 cases n with
 | zero => rfl
 | succ n => rw [chainLoop, h]; rfl
theorem chainLoop_go {pf : PS -> Ex × PS} {fs : List ByteArray} {n : Nat} {l : Ex} (h : seesAny T fs s = true) : chainLoop T pf fs (n + 1) l s = chainLoop T pf fs n (.bin (cur T s).text l (pf (adv s)).1) (pf (adv s)).2 := by
 rw [chainLoop, h]; rfl
theorem chain_any (hT : Toks T) (h : PW pb tb cap T w s) (hg : Good T s) {F : Nat} {d : Int} {pf : PS -> Ex × PS} (hE : Enters F) (hF : ExOK pb tb cap T F d pf) (hM : Mon T pf)
  (b c : Nat) (fs : List ByteArray) (hbig : fs.length <= 600) (hc : StrsAt w b fs) (hn : b ≠ pb) (hfs : ∀ f ∈ fs, f.toList ≠ []) :
  Calls Tryz.prog 214 #[.pointer (some ⟨pb, 0, none⟩), .func (.func F) #[.pointer (some ⟨pb, 0, none⟩)] #[], .int .i64 d, .slice (some ⟨b, 0, none⟩) fs.length c] w fun e w' =>
   ∃ v, e = .returned v /\ REx (From w.heap.size) w' v (chain T pf fs s).1 /\ PW pb tb cap T w' (chain T pf fs s).2 /\ Par pb w w' := by
 have hE' : ∀ (args : Array Value) (w : World), (callFunc F args).run Tryz.prog w = .ok (.enter F args) w := hE
 go_enter Tryz.func214, Tryz.ntmps214
 go_wp2_with (refine (hF _ _ h hg).mono ?_; rintro e w1 ⟨v1, rfl, hR1, hP1, hk1⟩)
 have hm1 := hM s hg
 go_loopw [9] (fun v wr => ∃ (s' : PS) (l : Ex) (n : Nat), REx (From w.heap.size) wr v l /\ PW pb tb cap T wr s' /\ Par pb w wr /\ Good T s' /\ T.length <= s'.next + n /\ Hid (chainLoop T pf fs n l s' = chain T pf fs s)) (fun _ wr => T.length - nextOf pb wr)
 case atStart => exact ⟨(pf s).2, (pf s).1, T.length, hR1, hP1, hk1, hm1.1, by omega, rfl⟩
 case round =>
  obtain ⟨s', l, n, hR, hP, hk, hg2, hn2, HL⟩ := hrel
  have hcr := hc.par hk hn
  have hnx := nextOf_eq hP
  cases hs : seesAny T fs s' with
  | true =>
   have hga := seesAny_good hT hg2 hfs hs
   have hma := hM (adv s') hga
   have hA := seesAny_any hP hg2 b c fs hbig hcr hn
   rw [hs] at hA
   obtain ⟨m, rfl⟩ : ∃ m, n = m + 1 := ⟨n - 1, by unfold Good at hg2; omega⟩
   have HL2 : Hid (chainLoop T pf fs m (.bin (cur T s').text l (pf (adv s')).1) (pf (adv s')).2 = chain T pf fs s) := by show _ = _; rw [<- HL.out, chainLoop_go hs]
   clear HL hs
   go_wp2_with (first
    | (go_at_call 218; refine hA.mono ?_; rintro e w2 ⟨rfl, hP2, hk2⟩)
    | (go_at_call 219; refine (join_any hP2 hg2 hga hE hF (hR.keep (hk2.keepQ h.lt)) h.lt (Nat.le_trans hk.size hk2.size)).mono ?_; rintro e w3 ⟨v3, rfl, hR3, hP3, hk3⟩))
   go_roundw
   case rel => exact ⟨(pf (adv s')).2, _, m, hR3, hP3, (hk.trans hk2).trans hk3, hma.1, by have := hma.2; have e : (adv s').next = s'.next + 1 := rfl; omega, HL2⟩
   case measure =>
    rw [nextOf_eq hP3, hnx]
    have := hma.2
    have e : (adv s').next = s'.next + 1 := rfl
    unfold Good at hg2
    omega
  | false =>
   have hA := seesAny_any hP hg2 b c fs hbig hcr hn
   rw [hs] at hA
   have HL2 : Hid (chain T pf fs s = (l, s')) := by show _ = _; rw [<- HL.out, chainLoop_stop hs]
   clear HL hs
   go_wp2_with (go_at_call 218; refine hA.mono ?_; rintro e w2 ⟨rfl, hP2, hk2⟩)
   go_ret
   refine ⟨_, rfl, ?_⟩
   rw [HL2.out]
   exact ⟨hR.keep (hk2.keepQ h.lt), hP2, hk.trans hk2⟩
end
theorem enters_term : Enters 227 := enters_of Tryz.func227 (by kernel_rfl) (by kernel_rfl)
theorem enters_sum : Enters 224 := enters_of Tryz.func224 (by kernel_rfl) (by kernel_rfl)
theorem enters_test : Enters 220 := enters_of Tryz.func220 (by kernel_rfl) (by kernel_rfl)
theorem enters_and : Enters 215 := enters_of Tryz.func215 (by kernel_rfl) (by kernel_rfl)
section
variable {pb tb cap : Nat} {T : List Tok} {d : Int} {pf : PS -> Ex × PS}
theorem strs_new1 (w : World) (a : List UInt8) (t : TypeId) : StrsAt (w.alloc (.cells #[.string ⟨a.toArray⟩] t)) w.heap.size [bs a] := by
 intro j f hj
 match j, hj with
 | 0, hj => simp at hj; subst hj; simp [bs]
 | j + 1, hj => simp at hj
theorem strs_new2 (w : World) (a b : List UInt8) (t : TypeId) : StrsAt (w.alloc (.cells #[.string ⟨a.toArray⟩, .string ⟨b.toArray⟩] t)) w.heap.size [bs a, bs b] := by
 intro j f hj
 match j, hj with
 | 0, hj => simp at hj; subst hj; simp [bs]
 | 1, hj => simp at hj; subst hj; simp [bs]
 | j + 2, hj => simp at hj
theorem strs_new3 (w : World) (a b c : List UInt8) (t : TypeId) : StrsAt (w.alloc (.cells #[.string ⟨a.toArray⟩, .string ⟨b.toArray⟩, .string ⟨c.toArray⟩] t)) w.heap.size [bs a, bs b, bs c] := by
 intro j f hj
 match j, hj with
 | 0, hj => simp at hj; subst hj; simp [bs]
 | 1, hj => simp at hj; subst hj; simp [bs]
 | 2, hj => simp at hj; subst hj; simp [bs]
 | j + 3, hj => simp at hj
theorem strs_new4 (w : World) (a b c e : List UInt8) (t : TypeId) : StrsAt (w.alloc (.cells #[.string ⟨a.toArray⟩, .string ⟨b.toArray⟩, .string ⟨c.toArray⟩, .string ⟨e.toArray⟩] t)) w.heap.size [bs a, bs b, bs c, bs e] := by
 intro j f hj
 match j, hj with
 | 0, hj => simp at hj; subst hj; simp [bs]
 | 1, hj => simp at hj; subst hj; simp [bs]
 | 2, hj => simp at hj; subst hj; simp [bs]
 | 3, hj => simp at hj; subst hj; simp [bs]
 | j + 4, hj => simp at hj
theorem term_ok (hT : Toks T) (hF : ExOK pb tb cap T 229 d pf) (hM : Mon T pf) : ExOK pb tb cap T 227 d (termOf T pf) := by
 intro w s h hg
 have hl := h.lt
 go_enter Tryz.func227, Tryz.ntmps227
 go_wp2_with (go_at_call 214; refine (chain_any hT (h.alloc _) hg enters_factor hF hM _ 3 mulOps (by decide) (strs_new3 w [42] [47] [37] _) (by omega) ops_ne.1).mono ?_; rintro e w1 ⟨v1, rfl, hR1, hP1, hk1⟩)
 go_ret
 exact ⟨_, rfl, hR1.up (by simp), hP1, ((Par.refl _ _).alloc _).trans hk1⟩
theorem sum_ok (hT : Toks T) (hF : ExOK pb tb cap T 229 d pf) (hM : Mon T pf) : ExOK pb tb cap T 224 d (sumOf T pf) := by
 intro w s h hg
 have hl := h.lt
 go_enter Tryz.func224, Tryz.ntmps224
 go_wp2_with (go_at_call 214; refine (chain_any hT (h.alloc _) hg enters_term (term_ok hT hF hM) (mon_termOf hT hM) _ 2 addOps (by decide) (strs_new2 w [43] [45] _) (by omega) ops_ne.2.1).mono ?_; rintro e w1 ⟨v1, rfl, hR1, hP1, hk1⟩)
 go_ret
 exact ⟨_, rfl, hR1.up (by simp), hP1, ((Par.refl _ _).alloc _).trans hk1⟩
theorem test_ok (hT : Toks T) (hF : ExOK pb tb cap T 229 d pf) (hM : Mon T pf) : ExOK pb tb cap T 220 d (testOf T pf) := by
 intro w s h hg
 have hl := h.lt
 have hS := sum_ok hT hF hM
 have hMS := mon_sumOf hT hM s hg
 cases hs : seesAny T testOps (sumOf T pf s).2 with
 | true =>
  have hga := seesAny_good hT hMS.1 ops_ne.2.2.1 hs
  have et : testOf T pf s = (.bin (cur T (sumOf T pf s).2).text (sumOf T pf s).1 (sumOf T pf (adv (sumOf T pf s).2)).1, (sumOf T pf (adv (sumOf T pf s).2)).2) := by
   unfold testOf testP; rw [hs]; rfl
  rw [et]; clear et
  have hA := fun w1 (hP : PW pb tb cap T w1 (sumOf T pf s).2) (hl1 : pb < w1.heap.size) => seesAny_any (hP.alloc _) hMS.1 w1.heap.size 4 testOps (by decide) (strs_new4 w1 [61] [35] [60] [62] 9) (by omega)
  rw [hs] at hA
  clear hs
  go_enter Tryz.func220, Tryz.ntmps220
  go_wp2_with (first
   | (go_at_call 224; refine (hS _ _ h hg).mono ?_; rintro e w1 ⟨v1, rfl, hR1, hP1, hk1⟩)
   | (go_at_call 218; refine (hA _ hP1 hP1.lt).mono ?_; rintro e w2 ⟨rfl, hP2, hk2⟩)
   | (go_at_call 219; refine (join_any hP2 hMS.1 hga enters_sum hS (hR1.keep ((((Par.refl _ _).alloc _).trans hk2).keepQ hl)) hl (Nat.le_trans hk1.size (((Par.refl pb w1).alloc _).trans hk2).size)).mono ?_; rintro e w3 ⟨v3, rfl, hR3, hP3, hk3⟩))
  go_ret
  exact ⟨_, rfl, hR3, hP3, ((hk1.alloc _).trans hk2).trans hk3⟩
 | false =>
  have et : testOf T pf s = sumOf T pf s := by
   unfold testOf testP; rw [hs]; rfl
  rw [et]; clear et
  have hA := fun w1 (hP : PW pb tb cap T w1 (sumOf T pf s).2) (hl1 : pb < w1.heap.size) => seesAny_any (hP.alloc _) hMS.1 w1.heap.size 4 testOps (by decide) (strs_new4 w1 [61] [35] [60] [62] 9) (by omega)
  rw [hs] at hA
  clear hs
  go_enter Tryz.func220, Tryz.ntmps220
  go_wp2_with (first
   | (go_at_call 224; refine (hS _ _ h hg).mono ?_; rintro e w1 ⟨v1, rfl, hR1, hP1, hk1⟩)
   | (go_at_call 218; refine (hA _ hP1 hP1.lt).mono ?_; rintro e w2 ⟨rfl, hP2, hk2⟩))
  go_ret
  exact ⟨_, rfl, hR1.keep ((((Par.refl _ _).alloc _).trans hk2).keepQ hl), hP2, (hk1.alloc _).trans hk2⟩
theorem and_ok (hT : Toks T) (hF : ExOK pb tb cap T 229 d pf) (hM : Mon T pf) : ExOK pb tb cap T 215 d (andOf T pf) := by
 intro w s h hg
 have hl := h.lt
 go_enter Tryz.func215, Tryz.ntmps215
 go_wp2_with (go_at_call 214; refine (chain_any hT (h.alloc _) hg enters_test (test_ok hT hF hM) (mon_testOf hT hM) _ 1 andOps (by decide) (strs_new1 w [97, 110, 100] _) (by omega) ops_ne.2.2.2.1).mono ?_; rintro e w1 ⟨v1, rfl, hR1, hP1, hk1⟩)
 go_ret
 exact ⟨_, rfl, hR1.up (by simp), hP1, ((Par.refl _ _).alloc _).trans hk1⟩
theorem expr_ok (hT : Toks T) (hF : ExOK pb tb cap T 229 d pf) (hM : Mon T pf) : ExOK pb tb cap T 207 d (exprOf T pf) := by
 intro w s h hg
 have hl := h.lt
 go_enter Tryz.func207, Tryz.ntmps207
 go_wp2_with (go_at_call 214; refine (chain_any hT (h.alloc _) hg enters_and (and_ok hT hF hM) (mon_andOf hT hM) _ 1 orOps (by decide) (strs_new1 w [111, 114] _) (by omega) ops_ne.2.2.2.2).mono ?_; rintro e w1 ⟨v1, rfl, hR1, hP1, hk1⟩)
 go_ret
 exact ⟨_, rfl, hR1.up (by simp), hP1, ((Par.refl _ _).alloc _).trans hk1⟩
end
theorem run_append_own2 {P : Program} (w : World) (base : Nat) (t ty e : TypeId) (i : TypeInfo) (z : Value) (size bytes : Nat) (ht : P.underlying t = some (.slice e)) (hi : P.info? e = some i) (hz : i.zero = some z)
  (hsize : i.size = size) (hby : i.bytes = bytes) (hzs : z.cells.size = size) (hsz : 0 < size)
  (v : Value) (n : Nat) (xs : List Value) (hown : w.ownsRow base e size v n xs)
  (a : Addr) (m c : Nat) (news : List Value) (hl : news.length = m * size) (hnews : ∀ j u, news[j]? = some u -> w.cell? (a.add j) = some u) (h1 : ∀ u ∈ news, u.oneCell' = true)
  (h63 : n + m <= maxLen) (hbytes : (n + m) * bytes <= 140737488355328) (hbase : base <= w.heap.size) :
  ∃ v' w', (Builtin.append_ #[t, t] ty #[v, .slice (some a) m c]).run P w = .ok v' w' /\ w'.ownsRow base e size v' (n + m) (xs ++ news) /\ w.grownBy w' v.ownBlock /\
   (v'.ownBlock = v.ownBlock ∨ ∀ k, v'.ownBlock = some k -> w.heap.size <= k) := by
 obtain ⟨v', w', hr, h2, h3, _⟩ := run_append_own (P := P) w base t ty e i z size bytes ht hi hz hsize hby hzs hsz v n xs hown a m c news hl hnews h1 h63 hbytes hbase
 refine ⟨v', w', hr, h2, h3, ?_⟩
 rcases hown.2 with ⟨rfl, rfl⟩ | ⟨g, cap, cur, rfl, hbg, hg, hnc, hcm, hcs, htake⟩
 ·have hown' : w.ownsRow w.heap.size e size (.slice none 0 0) 0 xs := ⟨hown.1, .inl ⟨rfl, rfl⟩⟩
  obtain ⟨v2, w2, hr2, h22, _, _⟩ := run_append_own (P := P) w w.heap.size t ty e i z size bytes ht hi hz hsize hby hzs hsz _ 0 xs hown' a m c news hl hnews h1 h63 hbytes (Nat.le_refl _)
  rw [hr] at hr2
  injection hr2 with e1 e2
  subst e1
  exact .inr fun k hk => (h22.lt k hk).1
 ·by_cases hroom : n + m <= cap
  ·obtain ⟨w2, hr2, _, _⟩ := run_append_fits (P := P) w base t ty e i size ht hi hsize g n cap xs hown a m c news hl hnews h1 hroom
   rw [hr] at hr2
   injection hr2 with e1 e2
   subst e1
   exact .inl rfl
  ·have holds : ∀ j u, xs[j]? = some u -> w.cell? ((⟨g, 0, none⟩ : Addr).add j) = some u := hown.cells (g := g) rfl
   subst hsize
   subst hby
   have hsmall : n + m <= 9223372036854775807 := by simp only [maxLen] at h63; omega
   have hr2 := run_append_grow (P := P) w t ty e i z ht hi hz ⟨g, 0, none⟩ n cap xs hown.1 holds a m c news hl hnews (by omega) (by omega) (growslice_fits (by omega) hbytes)
   rw [hr] at hr2
   injection hr2 with e1 e2
   subst e1
   right
   intro k hk
   simp [Value.ownBlock] at hk
   omega
theorem wpList_append_own2 {P : Program} {w : World} {ops : Array Oper} {rest : List Oper} {o : Oper} {a : Act} {Q : Exit -> Act -> World -> Prop} (hgd : o.guard = none) (s x : Operand) (t : TypeId)
  (ho : o.op = .call { callee := .builtin .append, args := #[s, x], argTypes := #[t, t] })
  (base : Nat) (e : TypeId) (i : TypeInfo) (z : Value) (size bytes : Nat) (ht : P.underlying t = some (.slice e)) (hi : P.info? e = some i) (hz : i.zero = some z)
  (hsize : i.size = size) (hby : i.bytes = bytes) (hzs : z.cells.size = size) (hsz : 0 < size)
  (v : Value) (n : Nat) (xs : List Value) (hs : a.eval s = v) (hown : w.ownsRow base e size v n xs)
  (ad : Addr) (m c : Nat) (news : List Value) (hx : a.eval x = .slice (some ad) m c) (hl : news.length = m * size) (hnews : ∀ j u, news[j]? = some u -> w.cell? (ad.add j) = some u) (h1 : ∀ u ∈ news, u.oneCell' = true)
  (h63 : n + m <= maxLen) (hbytes : (n + m) * bytes <= 140737488355328) (hbase : base <= w.heap.size)
  (h : ∀ v' w', w'.ownsRow base e size v' (n + m) (xs ++ news) -> w.grownBy w' v.ownBlock -> (v'.ownBlock = v.ownBlock ∨ ∀ k, v'.ownBlock = some k -> w.heap.size <= k) -> wpList P ops Q rest (a.put o.dst v') w') : wpList P ops Q (o :: rest) a w := by
 refine wpList_plain hgd fun K hK => ?_
 obtain ⟨v', w', hr, h2, h3, h4⟩ := run_append_own2 (P := P) w base t o.type e i z size bytes ht hi hz hsize hby hzs hsz v n xs hown ad m c news hl hnews h1 h63 hbytes hbase
 unfold Oper.wp execOp
 simp only [ho, resolve, invoke, builtin, Sem.run_bind, Sem.run_pure, Result.andThen_ok, List.map_toArray, List.map_cons, List.map_nil, hs, hx, hr]
 exact hK _ _ (h v' w' h2 h3 h4)
theorem owns_par {pb : Nat} {w w' : World} {base : Nat} {e : TypeId} {size : Nat} {v : Value} {n : Nat} {xs : List Value} (h : w.ownsRow base e size v n xs) (hk : Par pb w w') (hpb : pb < base) : w'.ownsRow base e size v n xs := by
 have hlt := h.lt
 obtain ⟨h1, h2⟩ := h
 refine ⟨h1, ?_⟩
 rcases h2 with h2 | ⟨g, cap, cur, hv, hg, hh, r⟩
 ·exact .inl h2
 ·exact .inr ⟨g, cap, cur, hv, hg, by rw [hk.block g (hlt g (by rw [hv]; rfl)).2 (by omega)]; exact hh, r⟩
def Off (lo : Nat) (v : Value) : Nat -> Prop := fun b => lo <= b /\ v.ownBlock ≠ some b
theorem keep_off {lo : Nat} {v : Value} {w w' : World} (hg : w.grownBy w' v.ownBlock) : KeepQ (Off lo v) w w' :=
 ⟨hg.size, fun b hb hl => hg.block b hl (fun e => hb.2 e.symm)⟩
theorem off_next {lo : Nat} {v v' : Value} {w : World} (hw : v'.ownBlock = v.ownBlock ∨ ∀ k, v'.ownBlock = some k -> w.heap.size <= k) : ∀ b, Off lo v b -> b < w.heap.size -> Off lo v' b := by
 intro b hb hl
 refine ⟨hb.1, fun e => ?_⟩
 rcases hw with h | h
 ·exact hb.2 (h ▸ e)
 ·have := h b e; omega
theorem par_grown {pb : Nat} {a w w' : World} {v : Value} (h : Par pb a w) (hg : w.grownBy w' v.ownBlock) (hv : ∀ k, v.ownBlock = some k -> a.heap.size <= k) : Par pb a w' :=
 ⟨hg.os.trans h.os, hg.tape.trans h.tape, hg.output.trans h.output, Nat.le_trans h.size hg.size, fun k hk hn => by
  rw [hg.block k (Nat.lt_of_lt_of_le hk h.size) (fun e => by have := hv k e.symm; omega)]; exact h.block k hk hn⟩
theorem PW.grown {pb tb cap : Nat} {T : List Tok} {w w' : World} {s : PS} {v : Value} {base : Nat} (h : PW pb tb cap T w s) (hg : w.grownBy w' v.ownBlock) (hv : ∀ k, v.ownBlock = some k -> base <= k) (hp : pb < base) (ht : tb < base) : PW pb tb cap T w' s := by
 have hl := h.lt
 have hb : w'.heap[pb]? = w.heap[pb]? := hg.block pb hl (fun e => by have := hv pb e.symm; omega)
 have hb2 : w'.heap[tb]? = w.heap[tb]? := hg.block tb h.tlt (fun e => by have := hv tb e.symm; omega)
 have e : ∀ o, w'.cell? ⟨pb, o, none⟩ = w.cell? ⟨pb, o, none⟩ := fun o => World.cell?_of_block (w := w) hb
 exact ⟨by rw [e]; exact h.code, by rw [e]; exact h.at_, by rw [e]; exact h.toks, by rw [e]; exact h.next,
  fun o => by rw [World.frozen?_of_block (w := w) hb]; exact h.frz o,
  fun j u hj => by rw [World.cell?_of_block (w := w) hb2]; exact h.tok j u hj, h.ne, Nat.lt_of_lt_of_le h.tlt hg.size, h.size⟩
theorem sliceV_of_owns {w : World} {base : Nat} {e : TypeId} {v : Value} {vs : List Value} (h : w.ownsRow base e 1 v vs.length vs) : SliceV (From base) w v vs := by
 rcases h.2 with ⟨rfl, h0⟩ | ⟨g, cap, cur, rfl, hg, hh, hn, _, _, ht⟩
 ·exact .inl ⟨rfl, List.eq_nil_of_length_eq_zero h0⟩
 ·refine .inr ⟨g, cap, rfl, hg, (Array.getElem?_eq_some_iff.1 hh).1, fun j x hj => ?_⟩
  have hjl : j < vs.length := (List.getElem?_eq_some_iff.1 hj).1
  have := h.cellAt (g := g) (n := vs.length) (cap := cap) j (by omega)
  rw [this]; exact hj
def RAll (Q : Nat -> Prop) (w : World) (vs : List Value) (es : List Ex) : Prop := vs.length = es.length /\ ∀ (j : Nat) v e, vs[j]? = some v -> es[j]? = some e -> REx Q w v e
theorem RAll.keep {Q : Nat -> Prop} {w w' : World} {vs : List Value} {es : List Ex} (h : RAll Q w vs es) (hk : KeepQ Q w w') : RAll Q w' vs es := ⟨h.1, fun j v e hv he => (h.2 j v e hv he).keep hk⟩
theorem RAll.weak {Q Q' : Nat -> Prop} {w : World} {vs : List Value} {es : List Ex} (h : RAll Q w vs es) (hq : ∀ b, Q b -> b < w.heap.size -> Q' b) : RAll Q' w vs es := ⟨h.1, fun j v e hv he => (h.2 j v e hv he).weak hq⟩
theorem RAll.snoc {Q : Nat -> Prop} {w : World} {vs : List Value} {es : List Ex} {v : Value} {e : Ex} (h : RAll Q w vs es) (hx : REx Q w v e) : RAll Q w (vs ++ [v]) (es ++ [e]) := by
 refine ⟨by simp [h.1], fun j a b ha hb => ?_⟩
 by_cases hj : j < vs.length
 ·rw [List.getElem?_append_left hj] at ha
  rw [List.getElem?_append_left (by rw [<- h.1]; exact hj)] at hb
  exact h.2 j a b ha hb
 ·rw [List.getElem?_append_right (by omega)] at ha
  rw [List.getElem?_append_right (by rw [<- h.1]; omega)] at hb
  rw [h.1] at ha
  cases hk : j - es.length with
  | zero => rw [hk] at ha hb; simp at ha hb; subst ha hb; exact hx
  | succ m => rw [hk] at ha; simp at ha
theorem keepOff_par {pb lo : Nat} {v : Value} {w w' : World} (hk : Par pb w w') (h : pb < lo) : KeepQ (Off lo v) w w' := ⟨hk.size, fun b hb hl => hk.block b hl (by have := hb.1; omega)⟩
theorem RAll.grow {pb lo : Nat} {u v' x : Value} {wr w3 w4 w5 : World} {e : TypeId} {n : Nat} {vs : List Value} {es : List Ex} {ex : Ex} (hpl : pb < lo) (hlo : lo <= wr.heap.size)
  (hall : RAll (Off lo u) wr vs es) (hown : wr.ownsRow lo e 1 u n vs) (hk3 : Par pb wr w3) (hk4 : Par pb w3 w4) (hx : REx (From w3.heap.size) w4 x ex) (o : Obj)
  (hg : (w4.alloc o).grownBy w5 u.ownBlock) (hw : v'.ownBlock = u.ownBlock ∨ ∀ k, v'.ownBlock = some k -> (w4.alloc o).heap.size <= k) : RAll (Off lo v') w5 (vs ++ [x]) (es ++ [ex]) := by
 have ha : RAll (Off lo u) (w4.alloc o) vs es := hall.keep (keepOff_par ((hk3.trans hk4).alloc o) hpl)
 have hb : REx (Off lo u) (w4.alloc o) x ex := (hx.weak (fun b hb _ => ⟨by have := hk3.size; unfold From at hb; omega, fun he => by have := (hown.lt b he).2; have := hk3.size; unfold From at hb; omega⟩)).keep (keepOff_par ((Par.refl pb w4).alloc o) hpl)
 have hc := ha.snoc hb
 have hd := hc.weak (Q' := fun b => Off lo u b /\ Off lo v' b) (fun b h1 h2 => ⟨h1, off_next hw b h1 h2⟩)
 exact (hd.keep ((keep_off hg).weak fun b h => h.1)).weak fun b h _ => h.2
theorem Tryz.infoExpr : (Tryz.prog.info? 251).map (fun i => (i.zero, i.size, i.bytes)) = some (some .nilIface, 1, 16) := by kernel_rfl
section
variable {pb tb cap : Nat} {T : List Tok} {w : World} {s : PS} {d : Int} {pf : PS -> Ex × PS}
theorem argsLoop_stop {n : Nat} {l : List Ex} (h : sees T (bs [44]) s = false) : argsLoop T pf n l s = (l, s) := by
 cases n with
 | zero => rfl
 | succ n => rw [argsLoop, h]; rfl
theorem argsLoop_go {n : Nat} {l : List Ex} (h : sees T (bs [44]) s = true) : argsLoop T pf (n + 1) l s = argsLoop T pf n (l ++ [(pf (adv s)).1]) (pf (adv s)).2 := by
 rw [argsLoop, h]; rfl
def ArgsPost (pb tb cap : Nat) (T : List Tok) (pf : PS -> Ex × PS) (w : World) (s : PS) (e : Ending) (w' : World) : Prop :=
 ∃ v vs, e = .returned v /\ SliceV (From w.heap.size) w' v vs /\ RAll (From w.heap.size) w' vs (argsOf T pf s).1 /\ PW pb tb cap T w' (argsOf T pf s).2 /\ Par pb w w'
theorem args_any (hT : Toks T) (hF : ExOK pb tb cap T 207 d pf) (hM : Mon T pf) (h : PW pb tb cap T w s) (hg : Good T s) :
  Calls Tryz.prog 212 #[.pointer (some ⟨pb, 0, none⟩), .int .i64 d] w fun e w' => ArgsPost pb tb cap T pf w s e w' := by
 have hpl := h.lt
 have htl := h.tlt
 have hsz := h.size
 cases hs : sees T (bs [41]) s with
 | true =>
  have hA := take_yes h hg (bs [41]) hs
  have HE : Hid (argsOf T pf s = ([], adv s)) := by show _ = _; unfold argsOf; rw [hs]; rfl
  go_enter Tryz.func212, Tryz.ntmps212
  go_wp2_with (go_at_call 165; refine hA.mono ?_; rintro e w1 ⟨rfl, hP1, hk1⟩)
  go_ret
  refine ⟨_, [], rfl, .inl ⟨rfl, rfl⟩, ?_⟩
  rw [HE.out]
  exact ⟨⟨rfl, fun j v e hv => by simp at hv⟩, hP1, hk1⟩
 | false =>
  obtain ⟨i0, hi, hz0, hz1, hz2⟩ := info_parts Tryz.infoExpr
  have hA := take_no h hg (bs [41]) hs
  have HE : Hid (argsOf T pf s = ((argsLoop T pf T.length [(pf s).1] (pf s).2).1, want T (bs [41]) (argsLoop T pf T.length [(pf s).1] (pf s).2).2)) := by show _ = _; unfold argsOf; rw [hs]; rfl
  have hms := hM s hg
  clear hs
  go_enter Tryz.func212, Tryz.ntmps212
  go_wp2_with (first
   | (go_at_call 165; refine hA.mono ?_; rintro e w1 ⟨rfl, hP1, hk1⟩)
   | (go_at_call 207; refine (hF _ _ hP1 hg).mono ?_; rintro e w2 ⟨v2, rfl, hR2, hP2, hk2⟩; have hc2 := hR2.cells))
  go_loopw [5] (fun v wr => ∃ (s' : PS) (vs : List Value) (acc : List Ex) (n : Nat), wr.ownsRow w.heap.size 251 1 v vs.length vs /\ RAll (Off w.heap.size v) wr vs acc /\ PW pb tb cap T wr s' /\ Par pb w wr /\ Good T s' /\ T.length <= s'.next + n /\ acc.length <= s'.next + 1 /\ Hid (argsLoop T pf n acc s' = argsLoop T pf T.length [(pf s).1] (pf s).2)) (fun _ wr => T.length - nextOf pb wr)
  case atStart =>
   have hs1 := hk1.size
   have hs2 := hk2.size
   refine ⟨(pf s).2, [v2], [(pf s).1], T.length, World.ownsRow_lit w2 #[v2] 1 (by omega) (by unfold maxLen; omega) rfl, ⟨rfl, fun j v e hv he => ?_⟩, hP2.alloc _, ((hk1.trans hk2).alloc _), hms.1, by omega, by simp, rfl⟩
   have : j = 0 := by
    match j, hv with
    | 0, _ => rfl
    | j + 1, hv => simp at hv
   subst this
   simp at hv he
   subst hv he
   have hR2' := hR2.weak (Q' := Off w.heap.size (.slice (some ⟨w2.heap.size, 0, none⟩) 1 1)) (fun b hb hl => ⟨by unfold From at hb; omega, by simp [Value.ownBlock]; omega⟩)
   exact hR2'.keep ⟨by simp, fun b hb hl => Below.heap_alloc _ _ _ hl⟩
  case round =>
   obtain ⟨s', vs, acc, n, hown, hall, hP, hk, hg2, hn2, hacc, HL⟩ := hrel
   have hnx := nextOf_eq hP
   have hks := hk.size
   cases hs : sees T (bs [44]) s' with
   | true =>
    have hga := good_adv hT hg2 hs (bs_ne _ (by simp))
    have hma := hM (adv s') hga
    have hB := take_yes hP hg2 (bs [44]) hs
    have hadv : (adv s').next = s'.next + 1 := rfl
    obtain ⟨m, rfl⟩ : ∃ m, n = m + 1 := ⟨n - 1, by unfold Good at hg2; omega⟩
    have HL2 : Hid (argsLoop T pf m (acc ++ [(pf (adv s')).1]) (pf (adv s')).2 = argsLoop T pf T.length [(pf s).1] (pf s).2) := by show _ = _; rw [<- HL.out, argsLoop_go hs]
    have hvl := hall.1
    unfold Good at hg2
    clear HL hs
    go_wp2_with (first
     | (go_at_call 165; refine hB.mono ?_; rintro e w3 ⟨rfl, hP3, hk3⟩)
     | (go_at_call 207; refine (hF _ _ hP3 hga).mono ?_; rintro e w4 ⟨v4, rfl, hR4, hP4, hk4⟩; have hc4 := hR4.cells; have ho4 := hR4.one)
     | (at_builtin; refine wpList_append_own2 rfl _ _ 259 rfl w.heap.size 251 i0 _ 1 16 Tryz.underlying259 hi hz0 hz1 hz2 rfl (by decide) _ _ _ rfl ((owns_par (owns_par hown hk3 hpl) hk4 hpl).alloc _) ⟨_, 0, none⟩ 1 1 [v4] rfl rfl (cell_one_new _ _ _) ?h1 ?h63 ?hby ?hbase ?hh
        case h1 => intro u hu; simp at hu; subst hu; exact ho4
        case h63 => unfold maxLen; omega
        case hby => omega
        case hbase => have := hk3.size; have := hk4.size; simp; omega
        intro v5 w5 hown5 hgrow5 hwhere5
        have X : Aside (w5.ownsRow w.heap.size 251 1 v5 (vs.length + 1) (vs ++ [v4]) /\ (w4.alloc (.cells #[v4] 251)).grownBy w5 u5.ownBlock /\ (v5.ownBlock = u5.ownBlock ∨ ∀ k, v5.ownBlock = some k -> (w4.alloc (.cells #[v4] 251)).heap.size <= k)) := ⟨hown5, hgrow5, hwhere5⟩
        clear hown5 hgrow5 hwhere5))
    have hlt := hown.lt
    have hk34 := hk3.trans hk4
    have hP5 : PW pb tb cap T w5 (pf (adv s')).2 := (hP4.alloc _).grown X.out.2.1 (fun k hk => (hlt k hk).1) hpl htl
    go_roundw
    case rel =>
     exact ⟨(pf (adv s')).2, vs ++ [v4], acc ++ [(pf (adv s')).1], m, by rw [List.length_append]; exact X.out.1, RAll.grow hpl hks hall hown hk3 hk4 hR4 _ X.out.2.1 X.out.2.2, hP5,
      par_grown ((hk.trans hk34).alloc _) X.out.2.1 (fun k hk => (hlt k hk).1), hma.1, by omega, by rw [List.length_append]; simp; omega, HL2⟩
    case measure =>
     rw [nextOf_eq hP5, hnx]
     omega
   | false =>
    have hB := take_no hP hg2 (bs [44]) hs
    have HL2 : Hid (argsOf T pf s = (acc, want T (bs [41]) s')) := by show _ = _; rw [HE.out, <- HL.out, argsLoop_stop hs]
    clear HL hs HE
    go_wp2_with (first
     | (go_at_call 165; refine hB.mono ?_; rintro e w3 ⟨rfl, hP3, hk3⟩)
     | (go_at_call 144; refine (want_any hP3 hg2 (bs [41])).mono ?_; rintro e w4 ⟨rfl, hP4, hk4⟩))
    go_ret
    have hk34 := hk3.trans hk4
    refine ⟨_, vs, rfl, sliceV_of_owns (owns_par hown hk34 hpl), ?_⟩
    rw [HL2.out]
    exact ⟨(hall.keep (keepOff_par hk34 hpl)).weak (fun b hb _ => hb.1), hP4, hk.trans hk34⟩
theorem index_any (hF : ExOK pb tb cap T 207 d pf) (hM : Mon T pf) (h : PW pb tb cap T w s) (hg : Good T s) :
  Calls Tryz.prog 213 #[.pointer (some ⟨pb, 0, none⟩), .int .i64 d] w fun e w' => ∃ v, e = .returned v /\ REx (From w.heap.size) w' v (indexOf T pf s).1 /\ PW pb tb cap T w' (indexOf T pf s).2 /\ Par pb w w' := by
 have hpl := h.lt
 have hms := hM s hg
 go_enter Tryz.func213, Tryz.ntmps213
 go_wp2_with (first
  | (go_at_call 207; refine (hF _ _ h hg).mono ?_; rintro e w2 ⟨v2, rfl, hR2, hP2, hk2⟩)
  | (go_at_call 144; refine (want_any hP2 hms.1 (bs [93])).mono ?_; rintro e w4 ⟨rfl, hP4, hk4⟩))
 go_ret
 exact ⟨_, rfl, hR2.keep (hk4.keepQ hpl), hP4, hk2.trans hk4⟩
end
theorem SliceV.cells {Q : Nat -> Prop} {w : World} {v : Value} {vs : List Value} (h : SliceV Q w v vs) : ∀ cs, v = .agg cs -> False := by
 intro cs hc
 rcases h with ⟨rfl, _⟩ | ⟨b, cap, rfl, _⟩ <;> cases hc
section
variable {pb tb cap : Nat} {T : List Tok} {d : Int} {pf : PS -> Ex × PS}
theorem namedFactor_ok (hT : Toks T) (hX : ExOK pb tb cap T 207 (d + 1) pf) (hM : Mon T pf) (hd0 : 0 <= d) (hd1 : d <= 14) : ExOK pb tb cap T 231 d (namedFactor T pf) := by
 intro w s h hg
 have hpl := h.lt
 have htl := h.tlt
 have hN := name_any h hg
 have hwr : IntKind.i64.wrap (d + 1) = d + 1 := by rw [IntKind.wrap_i64]; omega
 have hgn := (mon_nameP hT s hg).1
 cases hs : sees T (bs [40]) (nameP T s).2 with
 | true =>
  have hga := good_adv hT hgn hs (bs_ne _ (by simp))
  have HE : Hid (namedFactor T pf s = (.call (nameP T s).1.1 (nameP T s).1.2 (argsOf T pf (adv (nameP T s).2)).1, (argsOf T pf (adv (nameP T s).2)).2)) := by show _ = _; unfold namedFactor; rw [hs]; rfl
  generalize (nameP T s).1.1 = nn at *
  generalize (nameP T s).1.2 = np at *
  generalize (nameP T s).2 = s1 at *
  go_enter Tryz.func231, Tryz.ntmps231
  go_wp2_with (first
   | (go_at_call 189; refine hN.mono ?_; rintro e w1 ⟨rfl, hP1, hk1⟩; have hl1 := hP1.lt)
   | (go_at_call 165; refine (take_yes (hP1.alloc _) hgn (bs [40]) hs).mono ?_; rintro e w2 ⟨rfl, hP2, hk2⟩; obtain ⟨q0, q1, hs2⟩ := hk2.new hl1))
  go_region_with (go_at_call 212; refine (args_any hT hX hM (hP2.below (Below.refl _ _).drew) hga).mono ?_; rintro e w3 ⟨v3, vs3, rfl, hS3, hA3, hP3, hk3⟩; have hc3 := hS3.cells; obtain ⟨q3, q4, hs4⟩ := ((hk2.drewN 1).trans hk3).new hl1)
  all_goals go_wp2
  all_goals go_ret
  all_goals refine ⟨_, rfl, ?_⟩
  all_goals rw [HE.out]
  all_goals have hlo : w.heap.size <= w2.drew.heap.size := Nat.le_trans (Nat.le_trans hk1.size (by simp)) hk2.size
  all_goals exact ⟨.call _ _ (hS3.weak fun b hb _ => Nat.le_trans hlo hb) hA3.1 (fun j v e hv he => (hA3.2 j v e hv he).up hlo), hP3, ((hk1.alloc _).trans (hk2.drewN 1)).trans hk3⟩
 | false =>
  cases hs2 : sees T (bs [91]) (nameP T s).2 with
  | true =>
   have hga := good_adv hT hgn hs2 (bs_ne _ (by simp))
   have HE : Hid (namedFactor T pf s = (.elem (nameP T s).1.1 (nameP T s).1.2 (indexOf T pf (adv (nameP T s).2)).1, (indexOf T pf (adv (nameP T s).2)).2)) := by show _ = _; unfold namedFactor; rw [hs, hs2]; rfl
   generalize (nameP T s).1.1 = nn at *
   generalize (nameP T s).1.2 = np at *
   generalize (nameP T s).2 = s1 at *
   go_enter Tryz.func231, Tryz.ntmps231
   go_wp2_with (first
    | (go_at_call 189; refine hN.mono ?_; rintro e w1 ⟨rfl, hP1, hk1⟩; have hl1 := hP1.lt)
    | (go_at_call 165; refine (take_yes hP2 hgn (bs [91]) hs2).mono ?_; rintro e w22 ⟨rfl, hP22, hk22'⟩; have hk22 := hk2.trans hk22'; obtain ⟨q0, q1, hs22⟩ := hk22.new hl1)
    | (go_at_call 165; refine (take_no (hP1.alloc _) hgn (bs [40]) hs).mono ?_; rintro e w2 ⟨rfl, hP2, hk2⟩; have hk12 := (hk1.alloc _).trans hk2))
   go_region_with (go_at_call 213; refine (index_any hX hM (hP22.below (Below.refl _ _).drew) hga).mono ?_; rintro e w3 ⟨v3, rfl, hR3, hP3, hk3⟩; have hc3 := hR3.cells; obtain ⟨q3, q4, hs4⟩ := ((hk22.drewN 1).trans hk3).new hl1)
   all_goals go_wp2
   all_goals go_ret
   all_goals refine ⟨_, rfl, ?_⟩
   all_goals rw [HE.out]
   all_goals have hlo : w.heap.size <= w22.drew.heap.size := Nat.le_trans (Nat.le_trans hk1.size (by simp)) hk22.size
   all_goals exact ⟨.elem _ _ (hR3.up hlo), hP3, ((hk1.alloc _).trans (hk22.drewN 1)).trans hk3⟩
  | false =>
   have HE : Hid (namedFactor T pf s = (.var (nameP T s).1.1 (nameP T s).1.2, (nameP T s).2)) := by show _ = _; unfold namedFactor; rw [hs, hs2]; rfl
   generalize (nameP T s).1.1 = nn at *
   generalize (nameP T s).1.2 = np at *
   generalize (nameP T s).2 = s1 at *
   go_enter Tryz.func231, Tryz.ntmps231
   go_wp2_with (first
    | (go_at_call 189; refine hN.mono ?_; rintro e w1 ⟨rfl, hP1, hk1⟩; have hl1 := hP1.lt)
    | (go_at_call 165; refine (take_no hP2 hgn (bs [91]) hs2).mono ?_; rintro e w22 ⟨rfl, hP22, hk22'⟩; have hk22 := hk2.trans hk22'; obtain ⟨q0, q1, hs22⟩ := hk22.new hl1)
    | (go_at_call 165; refine (take_no (hP1.alloc _) hgn (bs [40]) hs).mono ?_; rintro e w2 ⟨rfl, hP2, hk2⟩))
   go_ret
   refine ⟨_, rfl, ?_⟩
   rw [HE.out]
   exact ⟨.var _ _, hP22, (hk1.alloc _).trans hk22⟩
end
section
variable {pb tb cap : Nat} {T : List Tok} {w : World} {s : PS} {d : Int} {k : Nat}
def FacPost (pb tb cap : Nat) (T : List Tok) (r : Ex × PS) (w : World) (e : Ending) (w' : World) : Prop :=
 ∃ v, e = .returned v /\ REx (From w.heap.size) w' v r.1 /\ PW pb tb cap T w' r.2 /\ Par pb w w'
theorem factor_deep (h : PW pb tb cap T w s) (hg : Good T s) (hd : 14 < d) :
  Calls Tryz.prog 229 #[.pointer (some ⟨pb, 0, none⟩), .int .i64 d] w fun e w' => FacPost pb tb cap T (factorD T 0 s) w e w' := by
 go_enter Tryz.func229, Tryz.ntmps229
 go_wp2_with (go_at_call 204; refine (tooDeep_yes h hg d hd).mono ?_; rintro e w1 ⟨rfl, hP1, hk1⟩)
 go_ret
 exact ⟨_, rfl, .nil, hP1, hk1⟩
theorem factor_num (h : PW pb tb cap T w s) (hg : Good T s) (hd : d <= 14) (hn : kindIs T .number s = true) :
  Calls Tryz.prog 229 #[.pointer (some ⟨pb, 0, none⟩), .int .i64 d] w fun e w' => FacPost pb tb cap T (factorD T (k + 1) s) w e w' := by
 have HE : Hid (factorD T (k + 1) s = (.num (cur T s).val, adv s)) := by show _ = _; rw [factorD]; simp [numP, hn]
 have hk' : (cur T s).kind.p = 2 := by have := kind_num (T := T) s; rw [hn] at this; simpa using this
 have hF0 := tokField0
 have hF2 := tokField2
 have hK := token_any h hg
 rw [hk'] at hK
 clear hn
 go_enter Tryz.func229, Tryz.ntmps229
 go_wp2_with (first
  | (go_at_call 204; refine (tooDeep_no d hd _ pb).mono ?_; rintro e w0 ⟨rfl, h0⟩; obtain rfl := h0.symm)
  | (go_at_call 145; refine hK.mono ?_; rintro e w1 ⟨rfl, hb1⟩; have hP1 := h.below hb1)
  | (go_at_call 203; refine (wantKind_yes hP1 hg 2 hk').mono ?_; rintro e w2 ⟨rfl, hP2, hk2⟩))
 go_ret
 refine ⟨_, rfl, ?_⟩
 rw [HE.out]
 exact ⟨.num _, hP2, (Par.of_below hb1).trans hk2⟩
theorem factor_name (h : PW pb tb cap T w s) (hg : Good T s) (hd : d <= 14) (hn : kindIs T .number s = false) (hm : kindIs T .name s = true)
  (hX : ExOK pb tb cap T 231 d (namedFactor T (exprOf T (factorD T k)))) :
  Calls Tryz.prog 229 #[.pointer (some ⟨pb, 0, none⟩), .int .i64 d] w fun e w' => FacPost pb tb cap T (factorD T (k + 1) s) w e w' := by
 have HE : Hid (factorD T (k + 1) s = namedFactor T (exprOf T (factorD T k)) s) := by show _ = _; rw [factorD]; simp [hn, hm]
 have hk' : (cur T s).kind.p = 1 := by have := kind_name (T := T) s; rw [hm] at this; simpa using this
 have hF0 := tokField0
 have hK := token_any h hg
 have hK2 := fun w1 (hb : Below w.heap.size w w1) => token_any (h.below hb) hg
 rw [hk'] at hK hK2
 clear hn hm hk'
 go_enter Tryz.func229, Tryz.ntmps229
 go_wp2_with (first
  | (go_at_call 204; refine (tooDeep_no d hd _ pb).mono ?_; rintro e w0 ⟨rfl, h0⟩; obtain rfl := h0.symm)
  | (go_at_call 145; refine (hK2 _ hb1).mono ?_; rintro e w2 ⟨rfl, hb2⟩; have hP2 := (h.below hb1).below hb2)
  | (go_at_call 145; refine hK.mono ?_; rintro e w1 ⟨rfl, hb1⟩)
  | (go_at_call 231; refine (hX _ _ hP2 hg).mono ?_; rintro e w3 ⟨v3, rfl, hR3, hP3, hk3⟩))
 go_ret
 refine ⟨_, rfl, ?_⟩
 rw [HE.out]
 have h12 := (Par.of_below (pb := pb) hb1).trans (Par.of_below hb2)
 exact ⟨hR3.up h12.size, hP3, h12.trans hk3⟩
theorem factor_paren (hT : Toks T) (h : PW pb tb cap T w s) (hg : Good T s) (hd0 : 0 <= d) (hd : d <= 14) (hn : kindIs T .number s = false) (hm : kindIs T .name s = false)
  (hX : ExOK pb tb cap T 207 (d + 1) (exprOf T (factorD T k))) (hM : Mon T (exprOf T (factorD T k))) (h1 : sees T (bs [40]) s = true) :
  Calls Tryz.prog 229 #[.pointer (some ⟨pb, 0, none⟩), .int .i64 d] w fun e w' => FacPost pb tb cap T (factorD T (k + 1) s) w e w' := by
 have HE : Hid (factorD T (k + 1) s = ((exprOf T (factorD T k) (adv s)).1, want T (bs [41]) (exprOf T (factorD T k) (adv s)).2)) := by show _ = _; rw [factorD]; simp [hn, hm, h1]
 have hk2 : ((cur T s).kind.p == 2) = false := by rw [kind_num]; exact hn
 have hk1 : ((cur T s).kind.p == 1) = false := by rw [kind_name]; exact hm
 have hF0 := tokField0
 have hK := token_any h hg
 have hK2 := fun w1 (hb : Below w.heap.size w w1) => token_any (h.below hb) hg
 have hga := good_adv hT hg h1 (bs_ne _ (by simp))
 have hma := hM (adv s) hga
 clear hn hm
 go_enter Tryz.func229, Tryz.ntmps229
 go_wp2_with (first
  | (go_at_call 204; refine (tooDeep_no d hd _ pb).mono ?_; rintro e w0 ⟨rfl, h0⟩; obtain rfl := h0.symm)
  | (go_at_call 145; refine (hK2 _ hb1).mono ?_; rintro e w2 ⟨rfl, hb2⟩; have hP2 := (h.below hb1).below hb2)
  | (go_at_call 145; refine hK.mono ?_; rintro e w1 ⟨rfl, hb1⟩)
  | (go_at_call 207; refine (hX _ _ hP3 hga).mono ?_; rintro e w6 ⟨v6, rfl, hR6, hP6, hk6⟩)
  | (go_at_call 144; refine (want_any hP6 hma.1 (bs [41])).mono ?_; rintro e w7 ⟨rfl, hP7, hk7⟩)
  | (go_at_call 165; refine (take_yes hP2 hg (bs [40]) h1).mono ?_; rintro e w3 ⟨rfl, hP3, hk3⟩))
 go_ret
 refine ⟨_, rfl, ?_⟩
 rw [HE.out]
 have h12 := (Par.of_below (pb := pb) hb1).trans (Par.of_below hb2)
 exact ⟨(hR6.up (h12.trans hk3).size).keep (hk7.keepQ h.lt), hP7, ((h12.trans hk3).trans hk6).trans hk7⟩
theorem factor_minus (hT : Toks T) (h : PW pb tb cap T w s) (hg : Good T s) (hd0 : 0 <= d) (hd : d <= 14) (hn : kindIs T .number s = false) (hm : kindIs T .name s = false)
  (hX : ExOK pb tb cap T 229 (d + 1) (factorD T k)) (h1 : sees T (bs [40]) s = false) (h2 : sees T (bs [45]) s = true) :
  Calls Tryz.prog 229 #[.pointer (some ⟨pb, 0, none⟩), .int .i64 d] w fun e w' => FacPost pb tb cap T (factorD T (k + 1) s) w e w' := by
 have HE : Hid (factorD T (k + 1) s = (.un (bs [45]) (factorD T k (adv s)).1, (factorD T k (adv s)).2)) := by show _ = _; rw [factorD]; simp [hn, hm, h1, h2]
 have hk2 : ((cur T s).kind.p == 2) = false := by rw [kind_num]; exact hn
 have hk1 : ((cur T s).kind.p == 1) = false := by rw [kind_name]; exact hm
 have hF0 := tokField0
 have hK := token_any h hg
 have hK2 := fun w1 (hb : Below w.heap.size w w1) => token_any (h.below hb) hg
 have hga := good_adv hT hg h2 (bs_ne _ (by simp))
 clear hn hm
 go_enter Tryz.func229, Tryz.ntmps229
 go_wp2_with (first
  | (go_at_call 204; refine (tooDeep_no d hd _ pb).mono ?_; rintro e w0 ⟨rfl, h0⟩; obtain rfl := h0.symm)
  | (go_at_call 145; refine (hK2 _ hb1).mono ?_; rintro e w2 ⟨rfl, hb2⟩; have hP2 := (h.below hb1).below hb2)
  | (go_at_call 145; refine hK.mono ?_; rintro e w1 ⟨rfl, hb1⟩)
  | (go_at_call 229; refine (hX _ _ hP4 hga).mono ?_; rintro e w6 ⟨v6, rfl, hR6, hP6, hk6⟩; have hc6 := hR6.cells)
  | (go_at_call 165; refine (take_yes hP3 hg (bs [45]) h2).mono ?_; rintro e w4 ⟨rfl, hP4, hk4⟩)
  | (go_at_call 165; refine (take_no hP2 hg (bs [40]) h1).mono ?_; rintro e w3 ⟨rfl, hP3, hk3⟩))
 go_ret
 refine ⟨_, rfl, ?_⟩
 rw [HE.out]
 have h12 := (Par.of_below (pb := pb) hb1).trans (Par.of_below hb2)
 exact ⟨.un _ (hR6.up ((h12.trans hk3).trans hk4).size), hP6, ((h12.trans hk3).trans hk4).trans hk6⟩
theorem factor_not (hT : Toks T) (h : PW pb tb cap T w s) (hg : Good T s) (hd0 : 0 <= d) (hd : d <= 14) (hn : kindIs T .number s = false) (hm : kindIs T .name s = false)
  (hX : ExOK pb tb cap T 229 (d + 1) (factorD T k)) (h1 : sees T (bs [40]) s = false) (h2 : sees T (bs [45]) s = false) (h3 : sees T (bs [110, 111, 116]) s = true) :
  Calls Tryz.prog 229 #[.pointer (some ⟨pb, 0, none⟩), .int .i64 d] w fun e w' => FacPost pb tb cap T (factorD T (k + 1) s) w e w' := by
 have HE : Hid (factorD T (k + 1) s = (.un (bs [110, 111, 116]) (factorD T k (adv s)).1, (factorD T k (adv s)).2)) := by show _ = _; rw [factorD]; simp [hn, hm, h1, h2, h3]
 have hk2 : ((cur T s).kind.p == 2) = false := by rw [kind_num]; exact hn
 have hk1 : ((cur T s).kind.p == 1) = false := by rw [kind_name]; exact hm
 have hF0 := tokField0
 have hK := token_any h hg
 have hK2 := fun w1 (hb : Below w.heap.size w w1) => token_any (h.below hb) hg
 have hga := good_adv hT hg h3 (bs_ne _ (by simp))
 clear hn hm
 go_enter Tryz.func229, Tryz.ntmps229
 go_wp2_with (first
  | (go_at_call 204; refine (tooDeep_no d hd _ pb).mono ?_; rintro e w0 ⟨rfl, h0⟩; obtain rfl := h0.symm)
  | (go_at_call 145; refine (hK2 _ hb1).mono ?_; rintro e w2 ⟨rfl, hb2⟩; have hP2 := (h.below hb1).below hb2)
  | (go_at_call 145; refine hK.mono ?_; rintro e w1 ⟨rfl, hb1⟩)
  | (go_at_call 229; refine (hX _ _ hP5 hga).mono ?_; rintro e w6 ⟨v6, rfl, hR6, hP6, hk6⟩; have hc6 := hR6.cells)
  | (go_at_call 165; refine (take_yes hP4 hg (bs [110, 111, 116]) h3).mono ?_; rintro e w5 ⟨rfl, hP5, hk5⟩)
  | (go_at_call 165; refine (take_no hP3 hg (bs [45]) h2).mono ?_; rintro e w4 ⟨rfl, hP4, hk4⟩)
  | (go_at_call 165; refine (take_no hP2 hg (bs [40]) h1).mono ?_; rintro e w3 ⟨rfl, hP3, hk3⟩))
 go_ret
 refine ⟨_, rfl, ?_⟩
 rw [HE.out]
 have h12 := (Par.of_below (pb := pb) hb1).trans (Par.of_below hb2)
 exact ⟨.un _ (hR6.up (((h12.trans hk3).trans hk4).trans hk5).size), hP6, (((h12.trans hk3).trans hk4).trans hk5).trans hk6⟩
theorem factor_bad (h : PW pb tb cap T w s) (hg : Good T s) (hd : d <= 14) (hn : kindIs T .number s = false) (hm : kindIs T .name s = false) (h1 : sees T (bs [40]) s = false) (h2 : sees T (bs [45]) s = false) (h3 : sees T (bs [110, 111, 116]) s = false) :
  Calls Tryz.prog 229 #[.pointer (some ⟨pb, 0, none⟩), .int .i64 d] w fun e w' => FacPost pb tb cap T (factorD T (k + 1) s) w e w' := by
 have HE : Hid (factorD T (k + 1) s = (.nil, fails T 4 s)) := by show _ = _; rw [factorD]; simp [hn, hm, h1, h2, h3]
 have hk2 : ((cur T s).kind.p == 2) = false := by rw [kind_num]; exact hn
 have hk1 : ((cur T s).kind.p == 1) = false := by rw [kind_name]; exact hm
 have hF0 := tokField0
 have hK := token_any h hg
 have hK2 := fun w1 (hb : Below w.heap.size w w1) => token_any (h.below hb) hg
 clear hn hm
 go_enter Tryz.func229, Tryz.ntmps229
 go_wp2_with (first
  | (go_at_call 204; refine (tooDeep_no d hd _ pb).mono ?_; rintro e w0 ⟨rfl, h0⟩; obtain rfl := h0.symm)
  | (go_at_call 145; refine (hK2 _ hb1).mono ?_; rintro e w2 ⟨rfl, hb2⟩; have hP2 := (h.below hb1).below hb2)
  | (go_at_call 145; refine hK.mono ?_; rintro e w1 ⟨rfl, hb1⟩)
  | (go_at_call 146; refine (fail_any hP5 hg 4).mono ?_; rintro e w6 ⟨rfl, hP6, hk6⟩)
  | (go_at_call 165; refine (take_no hP4 hg (bs [110, 111, 116]) h3).mono ?_; rintro e w5 ⟨rfl, hP5, hk5⟩)
  | (go_at_call 165; refine (take_no hP3 hg (bs [45]) h2).mono ?_; rintro e w4 ⟨rfl, hP4, hk4⟩)
  | (go_at_call 165; refine (take_no hP2 hg (bs [40]) h1).mono ?_; rintro e w3 ⟨rfl, hP3, hk3⟩))
 go_ret
 refine ⟨_, rfl, ?_⟩
 rw [HE.out]
 have h12 := (Par.of_below (pb := pb) hb1).trans (Par.of_below hb2)
 exact ⟨.nil, hP6, (((h12.trans hk3).trans hk4).trans hk5).trans hk6⟩
theorem factor_ok (hT : Toks T) : ∀ (k : Nat) (d : Int), d + k = 15 -> 0 <= d -> ExOK pb tb cap T 229 d (factorD T k)
 | 0, d, hd, _ => fun _ _ h hg => factor_deep h hg (by omega)
 | k + 1, d, hd, h0 => fun w s h hg => by
  have ih := factor_ok hT k (d + 1) (by omega) (by omega)
  have hM := mon_factorD hT k
  have hX := expr_ok hT ih hM
  have hMX := mon_exprOf hT hM
  have hN := namedFactor_ok hT hX hMX h0 (by omega)
  cases hn : kindIs T .number s with
  | true => exact factor_num h hg (by omega) hn
  | false =>
   cases hm : kindIs T .name s with
   | true => exact factor_name h hg (by omega) hn hm hN
   | false =>
    cases h1 : sees T (bs [40]) s with
    | true => exact factor_paren hT h hg h0 (by omega) hn hm hX hMX h1
    | false =>
     cases h2 : sees T (bs [45]) s with
     | true => exact factor_minus hT h hg h0 (by omega) hn hm ih h1 h2
     | false =>
      cases h3 : sees T (bs [110, 111, 116]) s with
      | true => exact factor_not hT h hg h0 (by omega) hn hm ih h1 h2 h3
      | false => exact factor_bad h hg (by omega) hn hm h1 h2 h3
theorem exprD_ok (hT : Toks T) (k : Nat) (d : Int) (hd : d + k = 15) (h0 : 0 <= d) : ExOK pb tb cap T 207 d (exprD T k) :=
 expr_ok hT (factor_ok hT k d hd h0) (mon_factorD hT k)
end
end Go.Proofs.YtklobognaldjpaaGreat
