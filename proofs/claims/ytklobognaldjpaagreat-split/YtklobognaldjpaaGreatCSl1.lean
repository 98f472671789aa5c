/- Rooms: a job is dropped. Plain: the heap's first is the least; none is ahead for long. Plain: none is ahead for long. What package lecternkeep does: same, wrap. The law Fair: same in general; the rows -/
import Derived.Test.YtklobognaldjpaaGreatCSm1
import Derived.Test.YtklobognaldjpaaGreatCRp8
import Derived.Test.YtklobognaldjpaaGreatCRm8
import Derived.LaidEqlPtr
import Derived.Test.YtklobognaldjpaaGreatCRp5
import Derived.Laws.AppendOwnNone
set_option maxRecDepth 1000000
set_option maxHeartbeats 2000000
namespace Go.Proofs.YtklobognaldjpaaGreat
open Go.RowKit
def Plain (w : World) (b : Nat) : Prop := (∃ c t f, w.heap[b]? = some (.cells c t f)) /\ ∀ o, w.frozen? ⟨b, o, none⟩ = false
theorem plain_of {w : World} {b o : Nat} {v : Value} (h : w.cell? ⟨b, o, none⟩ = some v) (hf : ∀ o, w.frozen? ⟨b, o, none⟩ = false) : Plain w b := by
 refine ⟨?_, hf⟩
 unfold World.cell? at h
 dsimp only at h
 split at h
 ·rename_i c t f e; exact ⟨c, t, f, e⟩
 ·cases h
theorem sameAddr_far {P : Program} {w : World} {p q : Nat} (hne : p ≠ q) (hp : Plain w p) (hq : Plain w q) : (sameAddr ⟨p, 0, none⟩ ⟨q, 0, none⟩).run P w = .ok false w := by
 obtain ⟨⟨c, t, f, hc⟩, hf⟩ := hp
 obtain ⟨⟨d, s, g, hd⟩, hg⟩ := hq
 have f0 := hf 0
 have fn := hf c.size
 have g0 := hg 0
 have gn := hg d.size
 simp [sameAddr, hne, hc, hd, noView, viewAt, World.shape?, mayBeOne, stringish, f0, fn, g0, gn]
theorem Tryz.underJob : Tryz.prog.underlying 103 = some (.pointer 151) := by kernel_rfl
theorem Tryz.infoJobS : (Tryz.prog.info? 151).map (·.size) = some 5 := by kernel_rfl
theorem jobs_same (w : World) (p : Nat) : (binOp .eql 103 (.pointer (some ⟨p, 0, none⟩)) (.pointer (some ⟨p, 0, none⟩))).run Tryz.prog w = .ok (.bool true) w := by
 obtain ⟨j, hj, _⟩ := Option.map_eq_some_iff.1 Tryz.infoJobS
 exact run_eql_ptr_same w _ Tryz.underJob hj
theorem jobs_other {w : World} {p q : Nat} (hne : p ≠ q) (hp : Plain w p) (hq : Plain w q) : (binOp .eql 103 (.pointer (some ⟨p, 0, none⟩)) (.pointer (some ⟨q, 0, none⟩))).run Tryz.prog w = .ok (.bool false) w := by
 obtain ⟨j, hj, hs⟩ := Option.map_eq_some_iff.1 Tryz.infoJobS
 have h : ∀ d : Nat, (Op.equalIn (d + 1) 103 (.pointer (some ⟨p, 0, none⟩)) (.pointer (some ⟨q, 0, none⟩))).run Tryz.prog w = .ok false w := fun d => by
  simp [Op.equalIn, run_underlying Tryz.underJob, sizeOf, typeInfo, hj, hs, sameAddr_far hne hp hq]
 simp only [binOp]
 simp [Op.equal, Op.maxDepth, h 9999]
theorem jindex_any {g cap : Nat} {l : List Nat} {w : World} (hl : l.length <= 100) (hc : ∀ (i : Nat) (b : Nat), l[i]? = some b -> w.cell? ⟨g, i, none⟩ = some (.pointer (some ⟨b, 0, none⟩)) /\ Plain w b) {at_ jb : Nat} (hat : l[at_]? = some jb) (hfst : ∀ k, k < at_ -> l[k]? ≠ some jb) :
  Calls Tryz.prog 82 #[.slice (some ⟨g, 0, none⟩) l.length cap, .pointer (some ⟨jb, 0, none⟩)] w fun e w' => e = .returned (.int .i64 (at_ : Nat)) /\ w' = w := by
 have hal : at_ < l.length := (List.getElem?_eq_some_iff.1 hat).1
 have hpj : Hid (Plain w jb) := (hc at_ jb hat).2
 go_enter Tryz.func82, Tryz.ntmps82
 go_wp2
 go_loop [5, 8] (fun _ i => ∃ k : Nat, k <= at_ /\ i = .int .i64 k) (fun _ i => l.length - (intOf i).toNat)
 case atStart => exact ⟨0, Nat.zero_le _, rfl⟩
 case round =>
  obtain ⟨k, hk, rfl⟩ := hrel
  have hlt : k < l.length := by omega
  have hki : (k : Int) < (l.length : Int) := by omega
  obtain ⟨hcell, hpk⟩ := hc k l[k] (List.getElem?_eq_getElem hlt)
  by_cases e : k = at_
  ·have e2 : l[k] = jb := by
    subst e
    rw [List.getElem?_eq_getElem hlt] at hat
    exact Option.some.inj hat
   rw [e2] at hcell
   have hE := jobs_same w jb
   subst e
   clear hc hat hfst e2 hpk
   go_wp2
   go_ret
   exact ⟨rfl, rfl⟩
  ·have e2 : ¬ jb = l[k] := fun e3 => hfst k (by omega) (by rw [List.getElem?_eq_getElem hlt, e3])
   have hE := jobs_other e2 hpj.out hpk
   generalize l[k] = bk at *
   clear hc hat hfst hpk
   go_wp2
   go_round
   case rel => exact ⟨k + 1, by omega, by go_num⟩
   case measure => simp [intOf]; omega
section
variable {w w' w1 : World} {rb sl : Nat} {vj v vj' v' : Value} {Js Js' : List JM} {J : JM} {a b : PRm} {E : Nat -> MS} {hp : List Nat}
def JM.off (J : JM) : JM := { J with done := true }
theorem JobAt.ended (h : JobAt w J) : JobAt (w.setCell ⟨J.jb, 4, none⟩ (.pointer none)) J.off /\ Fr J.foot w (w.setCell ⟨J.jb, 4, none⟩ (.pointer none)) := by
 have hne : ∀ k, k ≠ J.jb -> (w.setCell ⟨J.jb, 4, none⟩ (.pointer none)).heap[k]? = w.heap[k]? := fun k hk => Below.heap_setCell _ _ _ _ hk
 have hsz : (w.setCell ⟨J.jb, 4, none⟩ (.pointer none)).heap.size = w.heap.size := by simp [World.setCell]
 have hx := hne J.xb h.nx.symm
 have c4 := h.cel 4 _ rfl
 refine ⟨⟨fun j u hj => ?_, fun o => by rw [World.frozen?_setCell]; exact h.frz o, ⟨h.mc.cel.block hx, fun o => by rw [World.frozen?_of_block (w := w) hx]; exact h.mc.frz o, h.mc.rows.same (by rw [hsz]; exact Nat.le_refl _) fun b hb2 => hne b ?_⟩, h.nx, h.nr, h.nq, h.ouv⟩, ?_⟩
 ·by_cases e : j = 4
  ·subst e
   show (w.setCell ⟨J.jb, 4, none⟩ (.pointer none)).cell? ⟨J.jb, 4, none⟩ = some u
   rw [World.cell?_setCell_same _ _ _ c4]
   exact hj
  ·show (w.setCell ⟨J.jb, 4, none⟩ (.pointer none)).cell? ⟨J.jb, j, none⟩ = some u
   rw [World.cell?_setCell_other _ _ _ _ (by intro e2; cases e2; exact e rfl)]
   refine h.cel j u ?_
   have : ∀ i, i ≠ 4 -> J.off.cells[i]? = J.cells[i]? := fun i hi => by
    match i, hi with
    | 0, _ => rfl
    | 1, _ => rfl
    | 2, _ => rfl
    | 3, _ => rfl
    | 4, hi => exact absurd rfl hi
    | i + 5, _ => simp [JM.cells]
   rw [<- this j e]
   exact hj
 ·rintro rfl
  rcases hb2 with h1 | h1
  ·exact h.nq h1
  ·exact h.nr h1
 ·exact ⟨rfl, rfl, rfl, by rw [hsz]; exact Nat.le_refl _, fun k _ hk => hne k fun e => hk (.inl e)⟩
theorem qdrop_any (h : RoomAt w rb sl vj v Js hp) (hl : hp.length <= 100) {i at_ : Nat} (hi : Js[i]? = some J) (hat : hp[at_]? = some J.jb) (hfst : ∀ k, k < at_ -> hp[k]? ≠ some J.jb) :
  Calls Tryz.prog 64 #[.pointer (some ⟨rb, 2, none⟩), .pointer (some ⟨J.jb, 0, none⟩)] w fun e w' => e = .returned (.tuple #[]) /\ ∃ v' hp', hp'.Perm (hp.eraseIdx at_) /\ RoomAt w' rb sl vj v' (Js.set i J.off) hp' /\ RM rb vj v Js vj v' (Js.set i J.off) w w' := by
 have hal : at_ < hp.length := (List.getElem?_eq_some_iff.1 hat).1
 obtain ⟨g, cap, hv, _, _⟩ := h.rh.form (by omega)
 have hJm : J ∈ Js := List.mem_of_getElem? hi
 have c2 := h.c2
 rw [hv] at c2
 have hcs : ∀ (i : Nat) (b : Nat), hp[i]? = some b -> w.cell? ⟨g, i, none⟩ = some (.pointer (some ⟨b, 0, none⟩)) /\ Plain w b := fun k b hk => by
  have h1 := h.rh
  rw [hv] at h1
  have hk2 := (List.getElem?_eq_some_iff.1 hk).1
  refine ⟨by rw [h1.cellAt k (by omega), List.getElem?_map, hk]; rfl, ?_⟩
  obtain ⟨K, hK, rfl⟩ := h.hin b (List.mem_of_getElem? hk)
  exact plain_of ((h.job K hK).cel 0 _ rfl) (h.job K hK).frz
 have hI := jindex_any (cap := cap) hl hcs hat hfst
 obtain ⟨n, hn⟩ : ∃ n, hp.length = n + 1 := ⟨hp.length - 1, by omega⟩
 have hq := h.hq
 rw [hv] at hq
 have hRm : Calls Tryz.prog 83 #[.iface 148 (.pointer (some ⟨rb, 2, none⟩)), .int .i64 (at_ : Nat)] w fun e w' => (∃ x, e = .returned x) /\ Hid (∃ v' hp', hp'.Perm (hp.eraseIdx at_) /\ RoomAt w' rb sl vj v' Js hp' /\ RM rb vj v Js vj v' Js w w') := by
  refine (hrem_any hq hn (by omega) (i := at_) (by omega)).mono ?_
  rintro e w2 ⟨hx, l', hp2, t1, t2, t3⟩
  have hF' : Fr (fun b => b = rb ∨ v.ownBlock = some b) w w2 := t2.weak fun k _ e => e.elim .inl fun e => .inr (by rw [hv, e]; rfl)
  obtain ⟨r1, r2⟩ := h.heap t1 hF' t3 (fun k hk => .inl (by rw [hv]; exact hk)) (fun c hc => h.hin c (List.mem_of_mem_eraseIdx (hp2.mem_iff.1 hc)))
  exact ⟨hx, _, l', hp2, r1, r2⟩
 have HE : Hid (∀ w1, (∃ v' hp', hp'.Perm (hp.eraseIdx at_) /\ RoomAt w1 rb sl vj v' Js hp' /\ RM rb vj v Js vj v' Js w w1) -> Calls Tryz.prog 84 #[.pointer (some ⟨J.jb, 0, none⟩)] w1 fun e w' => e = .returned (.tuple #[]) /\ Hid (∃ v' hp', hp'.Perm (hp.eraseIdx at_) /\ RoomAt w' rb sl vj v' (Js.set i J.off) hp' /\ RM rb vj v Js vj v' (Js.set i J.off) w w')) := fun w1 hx => by
  obtain ⟨v', hp', p1, p2, p3⟩ := hx
  have hJ1 := p2.job J hJm
  refine (jend_any (hJ1.cel 4 _ rfl) (hJ1.frz 4)).mono ?_
  rintro e w2 ⟨rfl, rfl⟩
  obtain ⟨q1, q2⟩ := hJ1.ended
  obtain ⟨r1, r2⟩ := p2.turn hi q1 rfl (fun b hb => .inl hb) q2
  exact ⟨rfl, v', hp', p1, r1, p3.trans r2⟩
 rw [hn] at c2 hI
 have hna : ¬ (at_ : Int) < 0 := by omega
 clear h hq hv hcs hfst hat hi hJm hn hal hl
 go_enter Tryz.func64, Tryz.ntmps64
 go_wp2_with (first
  | (go_at_call 82; refine hI.mono ?_; rintro e w2 ⟨rfl, h9⟩; cases h9)
  | (go_at_call 83; go_loud (refine hRm.mono ?_; rintro e w3 ⟨⟨x3, rfl⟩, H3⟩; have hE := HE.out _ H3.out))
  | (go_at_call 84; refine hE.mono ?_; rintro e w4 ⟨rfl, H4⟩))
 go_end0
 exact ⟨rfl, H4.out⟩
theorem rep_set {js : List PJ} (hs : Js.map JM.pj = js) {i : Nat} : (Js.set i J.off).map JM.pj = js.set i { J.pj with done := true } := by
 rw [List.map_set, hs]; rfl
theorem drop_any (h : RRep w rb sl vj v Js a) (hg : PG E a) {i : Nat} {P : PJ} (hi : a.js[i]? = some P) (hd : P.done = false) : Calls Tryz.prog 37 #[.pointer (some ⟨rb, 0, none⟩), .int .i64 ((i : Int) + 1)] w fun e w' => e = .returned (.int .i64 0) /\ ∃ hp Js' v', PG E (dropP a i P hp) /\ RRep w' rb sl vj v' Js' (dropP a i P hp) /\ RM rb vj v Js vj v' Js' w w' := by
 obtain ⟨J, hJ, rfl⟩ := h.at hi
 have hJl : Js.length <= 5 := by have := hg.l5; rw [<- h.same, List.length_map] at this; exact this
 obtain ⟨at_, hal, hae⟩ := List.mem_iff_getElem.1 (hg.all i _ hi hd)
 have hat : a.hp[at_]? = some i := by rw [List.getElem?_eq_getElem hal, hae]
 have hat2 : (a.hp.map (jbAt Js))[at_]? = some J.jb := by rw [List.getElem?_map, hat]; simp [jbAt_some hJ]
 have hfst : ∀ k, k < at_ -> (a.hp.map (jbAt Js))[k]? ≠ some J.jb := fun k hk e => by
  have hkl : k < a.hp.length := by omega
  rw [List.getElem?_map, List.getElem?_eq_getElem hkl] at e
  have e2 : jbAt Js a.hp[k] = J.jb := Option.some.inj e
  obtain ⟨P2, p1, _⟩ := hg.hin a.hp[k] (List.getElem_mem hkl)
  obtain ⟨K, hK, _⟩ := h.at p1
  rw [jbAt_some hK] at e2
  by_cases e3 : a.hp[k] = i
  ·exact List.pairwise_iff_getElem.1 hg.nd k at_ hkl hal hk (e3.trans hae.symm)
  ·exact h.room.dis _ _ K J hK hJ e3 J.jb (.inl e2.symm) (.inl rfl)
 have hD : Calls Tryz.prog 64 #[.pointer (some ⟨rb, 2, none⟩), .pointer (some ⟨J.jb, 0, none⟩)] w fun e w' => e = .returned (.tuple #[]) /\ Hid (∃ hp Js' v', PG E (dropP a i J.pj hp) /\ RRep w' rb sl vj v' Js' (dropP a i J.pj hp) /\ RM rb vj v Js vj v' Js' w w') := by
  refine (qdrop_any h.room (by rw [List.length_map]; have := hg.h5; omega) hJ hat2 hfst).mono ?_
  rintro e w2 ⟨rfl, v', hp', p1, p2, p3⟩
  have e1 : (a.hp.map (jbAt Js)).eraseIdx at_ = (a.hp.eraseIdx at_).map (jbAt Js) := by
   rw [List.eraseIdx_eq_take_drop_succ, List.eraseIdx_eq_take_drop_succ, List.map_append, List.map_take, List.map_drop]
  rw [e1] at p1
  obtain ⟨hp2, k1, rfl⟩ := perm_map_inv p1
  refine ⟨rfl, hp2, Js.set i J.off, v', drop_pg hg hi hat k1, ⟨?_, rep_set h.same⟩, p3⟩
  show RoomAt w2 rb sl vj v' (Js.set i J.off) (hp2.map (jbAt (Js.set i J.off)))
  rw [jbAt_set (J' := J.off) hJ rfl]
  exact p2
 have hF := find_any h.room hJl hJ
 have c4 : w.cell? ⟨J.jb, 4, none⟩ = some (.pointer (some ⟨J.xb, 0, none⟩)) := by
  have := (h.room.job J (List.mem_of_getElem? hJ)).cel 4 _ rfl
  have hd2 : J.done = false := hd
  rw [hd2] at this
  exact this
 clear h hg hfst hat hat2
 go_enter Tryz.func37, Tryz.ntmps37
 go_wp2_with (first
  | (go_at_call 61; refine hF.mono ?_; rintro e w2 ⟨rfl, h9⟩; cases h9)
  | (go_at_call 62; refine (jover_any (v := some ⟨J.xb, 0, none⟩) c4).mono ?_; rintro e w3 ⟨rfl, h9⟩; cases h9)
  | (go_at_call 64; refine hD.mono ?_; rintro e w4 ⟨rfl, H4⟩))
 go_ret
 exact ⟨rfl, H4.out⟩
theorem drop_over (h : RRep w rb sl vj v Js a) (hl : a.js.length <= 5) {i : Nat} {P : PJ} (hi : a.js[i]? = some P) (hd : P.done = true) : Calls Tryz.prog 37 #[.pointer (some ⟨rb, 0, none⟩), .int .i64 ((i : Int) + 1)] w fun e w' => e = .returned (.int .i64 18) /\ w' = w := by
 obtain ⟨J, hJ, rfl⟩ := h.at hi
 have hJl : Js.length <= 5 := by rw [<- h.same, List.length_map] at hl; exact hl
 have hF := find_any h.room hJl hJ
 have c4 : w.cell? ⟨J.jb, 4, none⟩ = some (.pointer none) := by
  have := (h.room.job J (List.mem_of_getElem? hJ)).cel 4 _ rfl
  have hd2 : J.done = true := hd
  rw [hd2] at this
  exact this
 clear h
 go_enter Tryz.func37, Tryz.ntmps37
 go_wp2_with (first
  | (go_at_call 61; refine hF.mono ?_; rintro e w2 ⟨rfl, h9⟩; cases h9)
  | (go_at_call 62; refine (jover_any (v := none) c4).mono ?_; rintro e w3 ⟨rfl, h9⟩; cases h9))
 go_ret
 exact ⟨rfl, rfl⟩
end
theorem pushAll_good5 (ps : List Pup) : PG (endsOf ps) (pushAll ⟨[], []⟩ (ps.take 5)) := by
 by_cases h5 : 5 <= ps.length
 ·exact pushAll_good ps 5 h5 (Nat.le_refl _)
 ·have := pushAll_good ps ps.length (Nat.le_refl _) (by omega)
  rw [List.take_of_length_le (Nat.le_refl _)] at this
  rw [List.take_of_length_le (by omega)]
  exact this
theorem same_eq {vo vp : Value} {o : Nat × List Int × Nat} {w : World} (ho : OutAt w vo o) (hp : OutAt w vp o) :
  Calls Tryz.prog 26 #[vo, vp] w fun e w' => e = .returned (.bool true) /\ Below w.heap.size w w' := by
 obtain ⟨u, rfl, hu⟩ := ho
 obtain ⟨v, rfl, hv⟩ := hp
 obtain ⟨oc, out, ou⟩ := o
 dsimp only at hu hv ⊢
 have H1 : Hid (∀ A B, Calls Tryz.prog 36 #[u, v] ((w.alloc A).alloc B) fun e w' => e = .returned (.bool true) /\ Below ((w.alloc A).alloc B).heap.size ((w.alloc A).alloc B) w') := fun A B => by
  have := sameInts_any u v out out ((w.alloc A).alloc B) (hu.below (up_two _ _ _)) (hv.below (up_two _ _ _))
  rwa [decide_eq_true rfl] at this
 obtain ⟨a, ca, rfl, _⟩ := hu
 obtain ⟨b, cb, rfl, _⟩ := hv
 go_enter Tryz.func26, Tryz.ntmps26
 go_wp2_with (go_at_call 36; refine Calls.mono (H1.out _ _) ?_; rintro e w2 ⟨rfl, hb2⟩; have c0 : w2.cell? ⟨w.heap.size, 0, none⟩ = some (.int .i64 (oc : Nat)) := kept_two hb2 0; have c2 : w2.cell? ⟨w.heap.size, 2, none⟩ = some (.int .i64 (ou : Nat)) := kept_two hb2 2; have d0 : w2.cell? ⟨w.heap.size + 1, 0, none⟩ = some (.int .i64 (oc : Nat)) := (by have := kept_one hb2 0; simpa using this); have d2 : w2.cell? ⟨w.heap.size + 1, 2, none⟩ = some (.int .i64 (ou : Nat)) := (by have := kept_one hb2 2; simpa using this))
 go_ret
 exact ⟨rfl, below_two hb2⟩
theorem owned_any {w : World} {base : Nat} {e : TypeId} {size : Nat} {v : Value} {n : Nat} {xs : List Value} (h : w.ownsRow base e size v n xs) : ∃ a c, v = .slice a n c := by
 rcases h.2 with ⟨h3, h4⟩ | ⟨g, c, cur, h3, _⟩
 ·exact ⟨none, 0, by rw [h3, h4]⟩
 ·exact ⟨_, _, h3⟩
theorem below_grow {b : Nat} {a w w' : World} {row : Option Nat} (h : Below b a w) (hg : w.grownBy w' row) (hb : b <= w.heap.size) (hr : ∀ k, row = some k -> b <= k) : Below b a w' :=
 h.trans ⟨hg.os, hg.tape, hg.output, hg.size, fun k hk => hg.block k (by omega) (fun e => by have := hr k e.symm; omega)⟩
abbrev Q3 := Pup × Option Addr × Nat
section
variable {lo : Nat} {w w' : World} {s : Value} {qs : List Q3}
end
section
variable {w w4 wr w' : World} {rb sl lo ub ob N : Nat} {vj : Value} {ps : List Pup} {b : PRm} {Js : List JM} {v : Value}
end
section
variable {w wr w' : World} {rb sl ab : Nat} {vj : Value} {ps : List Pup} {K : Nat} {l m : List Nat} {b : PRm} {Js : List JM} {v : Value}
end
theorem PupAt.under {w W : World} {v : Value} {ps : List Pup} (h : PupAt w v ps) (hb : Below w.heap.size w W) : PupAt W v ps := by
 obtain ⟨a, cap, rfl, h3, h4⟩ := h
 refine ⟨a, cap, rfl, h3, ?_⟩
 rcases h4 with h4 | ⟨b, off, rfl, h5, h6⟩
 ·exact .inl h4
 ·refine .inr ⟨b, off, rfl, Nat.lt_of_lt_of_le h5 hb.size, fun i p hp => ?_⟩
  obtain ⟨g1, g2, vr, vi, g3, g4, g5, g6, g7⟩ := h6 i p hp
  exact ⟨g1, g2, vr, vi, by rw [hb.cell (p := ⟨b, off + i * 3, none⟩) h5]; exact g3, by rw [hb.cell (p := ⟨b, off + i * 3 + 1, none⟩) h5]; exact g4, by rw [hb.cell (p := ⟨b, off + i * 3 + 2, none⟩) h5]; exact g5, g6.under hb, g7.under hb⟩
theorem row_intsC {w : World} {base : Nat} {a : Option Addr} {n cap : Nat} {xs : List Int} (h : w.ownsRow base 3 1 (.slice a n cap) n (xs.map (.int .i64))) (hn : xs.length = n) (hl : n <= 1000000) : IntsC w (.slice a n cap) xs := by
 subst hn
 refine ⟨a, cap, rfl, hl, ?_⟩
 by_cases h0 : xs = []
 ·exact .inl h0
 ·obtain ⟨tb, cap2, e, hb, hlt⟩ := h.form (List.length_pos_iff.2 h0)
  cases e
  refine .inr ⟨tb, 0, rfl, hlt, fun i hi => ?_⟩
  have := h.cellAt i (by simpa using hi)
  rw [Nat.zero_add, this, List.getElem?_map, List.getElem?_eq_getElem hi]
  simp [List.getD, hi]
theorem kept_c {w w' : World} {b o : Nat} {v : Value} (hb : Below w.heap.size w w') (h : w.cell? ⟨b, o, none⟩ = some v) : w'.cell? ⟨b, o, none⟩ = some v :=
 (hb.cell (p := ⟨b, o, none⟩) (lt_of_cell h)).trans h
def intsN (l : List Nat) : List Value := l.map fun (x : Nat) => Value.int .i64 (x : Int)
theorem wpList_append_rows {P : Program} {w : World} {ops : Array Oper} {rest : List Oper} {o : Oper} {a : Act} {Q : Exit -> Act -> World -> Prop} (hgd : o.guard = none) (s x : Operand) (t : TypeId)
  (ho : o.op = .call { callee := .builtin .append, args := #[s, x], argTypes := #[t, t] })
  (base base2 : Nat) (e : TypeId) (i : TypeInfo) (z : Value) (bytes : Nat) (ht : P.underlying t = some (.slice e)) (hi : P.info? e = some i) (hz : i.zero = some z)
  (hsize : i.size = 1) (hby : i.bytes = bytes) (hzs : z.cells.size = 1)
  (v u : Value) (n m : Nat) (xs ys : List Value) (hs : a.eval s = v) (hown : w.ownsRow base e 1 v n xs) (hx : a.eval x = u) (hsrc : w.ownsRow base2 e 1 u m ys) (h1 : ∀ u ∈ ys, u.oneCell' = true)
  (h63 : n + m <= maxLen) (hbytes : (n + m) * bytes <= 140737488355328) (hbase : base <= w.heap.size)
  (h : ∀ v' w', w'.ownsRow base e 1 v' (n + m) (xs ++ ys) -> w.grownBy w' v.ownBlock -> (v'.ownBlock = v.ownBlock ∨ ∀ k, v'.ownBlock = some k -> w.heap.size <= k) -> wpList P ops Q rest (a.put o.dst v') w') : wpList P ops Q (o :: rest) a w := by
 have hsrc0 := hsrc
 obtain ⟨hl, h2⟩ := hsrc
 rcases h2 with ⟨h3, h4⟩ | ⟨g, cap, cur, h3, h4, h5⟩
 ·subst h4
  have : ys = [] := List.length_eq_zero_iff.1 (by omega)
  subst this
  rw [h3] at hx
  refine wpList_append_own_none hgd s x t ho base e i 1 ht hi v n xs hs hown hx (h v w ?_ ⟨rfl, rfl, rfl, Nat.le_refl _, fun _ _ _ => rfl⟩ (.inl rfl))
  rw [List.append_nil]
  exact hown
 ·rw [h3] at hx hsrc0
  refine wpList_append_own2 hgd s x t ho base e i z 1 bytes ht hi hz hsize hby hzs (by decide) v n xs hs hown ⟨g, 0, none⟩ m cap ys hx (by omega) (fun j u hj => ?_) h1 h63 hbytes hbase h
  have hjl := (List.getElem?_eq_some_iff.1 hj).1
  have := hsrc0.cellAt j (by omega)
  rw [hj] at this
  have e0 : (⟨g, 0, none⟩ : Addr).add j = ⟨g, j, none⟩ := by
   cases j with
   | zero => rfl
   | succ j => simp [Addr.add]
  rw [e0]; exact this
structure TwoAt (w wr : World) (rb tb sl : Nat) (vj v tj u : Value) (Js Ts : List JM) (a c : PRm) : Prop where
 r : RRep wr rb sl vj v Js a
 t : RRep wr tb sl tj u Ts c
 fr : ∀ x, RFoot rb vj v Js x -> w.heap.size <= x /\ ¬ RFoot tb tj u Ts x
 ft : ∀ x, RFoot tb tj u Ts x -> w.heap.size <= x
 bel : Below w.heap.size w wr
section
variable {w wr w' : World} {rb tb sl : Nat} {vj v tj u : Value} {Js Ts : List JM} {a c : PRm} {E : Nat -> MS}
theorem RRep.kept {wr w' : World} {tb sl : Nat} {tj u : Value} {Ts : List JM} {c : PRm} (h : RRep wr tb sl tj u Ts c) (hs : wr.heap.size <= w'.heap.size) (hk : ∀ x, RFoot tb tj u Ts x -> w'.heap[x]? = wr.heap[x]?) : RRep w' tb sl tj u Ts c := ⟨h.room.same hs hk, h.same⟩
theorem TwoAt.below (h : TwoAt w wr rb tb sl vj v tj u Js Ts a c) (hb : Below wr.heap.size wr w') : TwoAt w w' rb tb sl vj v tj u Js Ts a c :=
 ⟨h.r.below hb, h.t.below hb, h.fr, h.ft, h.bel.trans (hb.mono h.bel.size)⟩
theorem TwoAt.turnR {v' : Value} {Js' : List JM} {a' : PRm} (h : TwoAt w wr rb tb sl vj v tj u Js Ts a c) (hr : RRep w' rb sl vj v' Js' a') (hm : RM rb vj v Js vj v' Js' wr w') : TwoAt w w' rb tb sl vj v' tj u Js' Ts a' c := by
 refine ⟨hr, h.t.kept hm.fr.size fun x hx => hm.fr.block x (h.t.room.footlt hx) fun e => (h.fr x e).2 hx, fun x hx => ?_, h.ft, h.bel.trans (below_of_rm hm (fun b hb => (h.fr b hb).1) h.bel.size)⟩
 rcases hm.nw x hx with e | e
 ·exact h.fr x e
 ·exact ⟨Nat.le_trans h.bel.size e, fun e2 => by have := h.t.room.footlt e2; omega⟩
theorem TwoAt.turnT {u' : Value} {Ts' : List JM} {c' : PRm} (h : TwoAt w wr rb tb sl vj v tj u Js Ts a c) (hr : RRep w' tb sl tj u' Ts' c') (hm : RM tb tj u Ts tj u' Ts' wr w') : TwoAt w w' rb tb sl vj v tj u' Js Ts' a c' := by
 refine ⟨h.r.kept hm.fr.size fun x hx => hm.fr.block x (h.r.room.footlt hx) fun e => (h.fr x hx).2 e, hr, fun x hx => ⟨(h.fr x hx).1, fun e => ?_⟩, fun x hx => ?_, h.bel.trans (below_of_rm hm h.ft h.bel.size)⟩
 ·rcases hm.nw x e with e2 | e2
  ·exact (h.fr x hx).2 e2
  ·have := h.r.room.footlt hx; omega
 ·rcases hm.nw x hx with e | e
  ·exact h.ft x e
  ·exact Nat.le_trans h.bel.size e
structure Row2 (wr : World) (lo hi : Nat) (rb tb : Nat) (vj v tj u : Value) (Js Ts : List JM) (s : Value) (l : List Nat) : Prop where
 own : wr.ownsRow lo 3 1 s l.length (intsN l)
 off : ∀ x, RFoot rb vj v Js x ∨ RFoot tb tj u Ts x -> s.ownBlock ≠ some x
 lt : ∀ k, s.ownBlock = some k -> k < hi
theorem Row2.turnR {v' : Value} {Js' : List JM} {s : Value} {l : List Nat} {lo hi : Nat} (h : Row2 wr lo hi rb tb vj v tj u Js Ts s l) (hm : RM rb vj v Js vj v' Js' wr w') : Row2 w' lo hi rb tb vj v' tj u Js' Ts s l := by
 refine ⟨row_kept h.own fun k e => hm.fr.block k (h.own.lt k e).2 fun e2 => h.off k (.inl e2) e, fun x hx e => ?_, h.lt⟩
 rcases hx with hx | hx
 ·rcases hm.nw x hx with e2 | e2
  ·exact h.off x (.inl e2) e
  ·have := (h.own.lt x e).2; omega
 ·exact h.off x (.inr hx) e
theorem Row2.turnT {u' : Value} {Ts' : List JM} {s : Value} {l : List Nat} {lo hi : Nat} (h : Row2 wr lo hi rb tb vj v tj u Js Ts s l) (hm : RM tb tj u Ts tj u' Ts' wr w') : Row2 w' lo hi rb tb vj v tj u' Js Ts' s l := by
 refine ⟨row_kept h.own fun k e => hm.fr.block k (h.own.lt k e).2 fun e2 => h.off k (.inr e2) e, fun x hx e => ?_, h.lt⟩
 rcases hx with hx | hx
 ·exact h.off x (.inl hx) e
 ·rcases hm.nw x hx with e2 | e2
  ·exact h.off x (.inr e2) e
  ·have := (h.own.lt x e).2; omega
theorem TwoAt.tickR (h : TwoAt w wr rb tb sl vj v tj u Js Ts a c) (hg : PG E a) (hsl : sl <= 1000) {k : Nat} (hk : k <= 500) : Calls Tryz.prog 33 #[.pointer (some ⟨rb, 0, none⟩), .int .i64 (k : Nat)] wr fun e w' => ∃ (l : List Nat) (la : Option Addr) (lc : Nat), e = .returned (.tuple #[.slice la l.length lc, .int .i64 0]) /\ l.length <= k /\ Hid (∃ a' Js' v', Rds sl k a a' l /\ PG E a' /\ TwoAt w w' rb tb sl vj v' tj u Js' Ts a' c /\ Row2 w' wr.heap.size w'.heap.size rb tb vj v' tj u Js' Ts (.slice la l.length lc) l /\ RM rb vj v Js vj v' Js' wr w') := by
 refine (tick_any h.r hg hsl hk).mono ?_
 rintro e w' ⟨a', l, Js', v', la, lc, h1, h2, rfl, h3, h4, h5, h6⟩
 refine ⟨l, la, lc, rfl, rds_len h1, a', Js', v', h1, h2, h.turnR h5 h6, ⟨h3, fun x hx e => ?_, fun k e => (h3.lt k e).2⟩, h6⟩
 rcases hx with hx | hx
 ·exact h4 x hx e
 ·have := h.t.room.footlt hx
  have := (h3.lt x e).1
  omega
theorem TwoAt.tickT (h : TwoAt w wr rb tb sl vj v tj u Js Ts a c) (hg : PG E c) (hsl : sl <= 1000) {k : Nat} (hk : k <= 500) : Calls Tryz.prog 33 #[.pointer (some ⟨tb, 0, none⟩), .int .i64 (k : Nat)] wr fun e w' => ∃ (l : List Nat) (la : Option Addr) (lc : Nat), e = .returned (.tuple #[.slice la l.length lc, .int .i64 0]) /\ l.length <= k /\ Hid (∃ c' Ts' u', Rds sl k c c' l /\ PG E c' /\ TwoAt w w' rb tb sl vj v tj u' Js Ts' a c' /\ Row2 w' wr.heap.size w'.heap.size rb tb vj v tj u' Js Ts' (.slice la l.length lc) l /\ RM tb tj u Ts tj u' Ts' wr w') := by
 refine (tick_any h.t hg hsl hk).mono ?_
 rintro e w' ⟨c', l, Ts', u', la, lc, h1, h2, rfl, h3, h4, h5, h6⟩
 refine ⟨l, la, lc, rfl, rds_len h1, c', Ts', u', h1, h2, h.turnT h5 h6, ⟨h3, fun x hx e => ?_, fun k e => (h3.lt k e).2⟩, h6⟩
 rcases hx with hx | hx
 ·have := h.r.room.footlt hx
  have := (h3.lt x e).1
  omega
 ·exact h4 x hx e
theorem RRep.job {wr : World} {rb sl : Nat} {vj v : Value} {Js : List JM} {a : PRm} (h : RRep wr rb sl vj v Js a) (hl : a.js.length <= 5) {i : Nat} {P : PJ} (hi : a.js[i]? = some P) {n : Int} (hn : n = (i : Int) + 1) : Calls Tryz.prog 35 #[.pointer (some ⟨rb, 0, none⟩), .int .i64 n] wr fun e w' => ∃ oa oc, e = .returned (.tuple #[.agg #[.int .i64 ((P.m.over.getD 0 : Nat) : Int), .slice oa P.m.out.length oc, .int .i64 (P.m.used : Nat)], .int .i64 (if P.done then 1 else 0), .int .i64 0]) /\ P.m.out.length <= 60 /\ Hid (w'.ownsRow wr.heap.size 3 1 (.slice oa P.m.out.length oc) P.m.out.length (P.m.out.map (.int .i64))) /\ Below wr.heap.size wr w' := by
 subst hn
 obtain ⟨J, hJ, hJP⟩ := h.at hi
 subst hJP
 have hJl : Js.length <= 5 := by rw [<- h.same, List.length_map] at hl; exact hl
 have h60 : J.m.out.length <= 60 := (h.room.job J (List.mem_of_getElem? hJ)).mc.rows.o60
 refine (roomJob_own h.room hJl hJ).mono ?_
 rintro e w' ⟨oa, oc, rfl, _, hu, hb⟩
 exact ⟨oa, oc, rfl, h60, hu, hb⟩
theorem TwoAt.grown (h : TwoAt w wr rb tb sl vj v tj u Js Ts a c) {s : Value} {l : List Nat} {lo hi : Nat} (hr : Row2 wr lo hi rb tb vj v tj u Js Ts s l) (hlo : w.heap.size <= lo) (hg : wr.grownBy w' s.ownBlock) : TwoAt w w' rb tb sl vj v tj u Js Ts a c :=
 ⟨h.r.kept hg.size fun x hx => hg.block x (h.r.room.footlt hx) fun e => hr.off x (.inl hx) e.symm, h.t.kept hg.size fun x hx => hg.block x (h.t.room.footlt hx) fun e => hr.off x (.inr hx) e.symm, h.fr, h.ft, below_grow h.bel hg h.bel.size fun k e => Nat.le_trans hlo (hr.own.lt k e).1⟩
structure Told2 (wr : World) (rb : Nat) (vj v : Value) (Js : List JM) (bx oc ou : Nat) (oa : Option Addr) (oc2 : Nat) (out : List Int) : Prop where
 k0 : wr.cell? ⟨bx, 0, none⟩ = some (.int .i64 (oc : Nat))
 k1 : wr.cell? ⟨bx, 1, none⟩ = some (.slice oa out.length oc2)
 k2 : wr.cell? ⟨bx, 2, none⟩ = some (.int .i64 (ou : Nat))
 own : wr.ownsRow 0 3 1 (.slice oa out.length oc2) out.length (out.map (.int .i64))
 o1 : ¬ RFoot rb vj v Js bx
 o2 : ∀ x, RFoot rb vj v Js x -> (Value.slice oa out.length oc2).ownBlock ≠ some x
theorem Told2.turn {bx oc ou oc2 : Nat} {oa : Option Addr} {out : List Int} {v' : Value} {Js' : List JM} (h : Told2 wr rb vj v Js bx oc ou oa oc2 out) (hm : RM rb vj v Js vj v' Js' wr w') : Told2 w' rb vj v' Js' bx oc ou oa oc2 out := by
 have hbl := hm.fr.block bx (lt_of_cell h.k0) h.o1
 refine ⟨(World.cell?_of_block (w := wr) hbl).trans h.k0, (World.cell?_of_block (w := wr) hbl).trans h.k1, (World.cell?_of_block (w := wr) hbl).trans h.k2, row_kept h.own fun k e => hm.fr.block k (h.own.lt k e).2 fun e2 => h.o2 k e2 e, fun e => ?_, fun x hx e => ?_⟩
 ·rcases hm.nw bx e with e2 | e2
  ·exact h.o1 e2
  ·have : bx < wr.heap.size := lt_of_cell h.k0
   omega
 ·rcases hm.nw x hx with e2 | e2
  ·exact h.o2 x e2 e
  ·have := (h.own.lt x e).2; omega
theorem Told2.below {bx oc ou oc2 : Nat} {oa : Option Addr} {out : List Int} (h : Told2 wr rb vj v Js bx oc ou oa oc2 out) (hb : Below wr.heap.size wr w') : Told2 w' rb vj v Js bx oc ou oa oc2 out :=
 ⟨kept_c hb h.k0, kept_c hb h.k1, kept_c hb h.k2, owns_below h.own hb, h.o1, h.o2⟩
theorem told_new {hp0 : List Nat} {oc ou oc2 : Nat} {oa : Option Addr} {out : List Int} {w6 : World} (hr : RoomAt wr rb sl vj v Js hp0) (hb : Below wr.heap.size wr w6) (h : w6.ownsRow wr.heap.size 3 1 (.slice oa out.length oc2) out.length (out.map (.int .i64))) : Told2 (w6.alloc (.cells #[.int .i64 (oc : Nat), .slice oa out.length oc2, .int .i64 (ou : Nat)] 39)) rb vj v Js w6.heap.size oc ou oa oc2 out := by
 have hn : Below w6.heap.size w6 (w6.alloc (.cells #[.int .i64 (oc : Nat), .slice oa out.length oc2, .int .i64 (ou : Nat)] 39)) := (Below.refl _ _).alloc (Nat.le_refl _) _
 refine ⟨World.cell?_alloc_new w6 _ _ 0, World.cell?_alloc_new w6 _ _ 1, World.cell?_alloc_new w6 _ _ 2, row_base (owns_below h hn) (Nat.zero_le _), fun e => ?_, fun x hx e => ?_⟩
 ·have := hr.footlt e
  have := hb.size
  omega
 ·have := hr.footlt hx
  have := (h.lt x e).1
  omega
theorem TwoAt.drop (h : TwoAt w wr rb tb sl vj v tj u Js Ts a c) (hg : PG E a) (hn : NumP a) {i : Nat} {P : PJ} (hi : a.js[i]? = some P) {n : Int} (hni : n = (i : Int) + 1) : Calls Tryz.prog 37 #[.pointer (some ⟨rb, 0, none⟩), .int .i64 n] wr fun e w' => ∃ hc : Nat, e = .returned (.int .i64 (hc : Nat)) /\ ((P.done = true /\ hc = 18) ∨ (P.done = false /\ hc = 0)) /\ Hid (∃ a' Js' v', PG E a' /\ NumP a' /\ a'.js[i]? = some { P with done := true } /\ TwoAt w w' rb tb sl vj v' tj u Js' Ts a' c /\ RM rb vj v Js vj v' Js' wr w') := by
 subst hni
 cases hd : P.done with
 | true =>
  refine (drop_over h.r hg.l5 hi hd).mono ?_
  rintro e w' ⟨rfl, rfl⟩
  refine ⟨18, rfl, .inl ⟨rfl, rfl⟩, a, Js, v, hg, hn, ?_, h, RM.refl _ _ _ _ _⟩
  rw [hi]
  cases P
  dsimp only at hd
  rw [hd]
 | false =>
  refine (drop_any h.r hg hi hd).mono ?_
  rintro e w' ⟨rfl, hp, Js', v', p1, p2, p3⟩
  have hil : i < a.js.length := (List.getElem?_eq_some_iff.1 hi).1
  have hset := set_at hil { P with done := true }
  refine ⟨0, rfl, .inr ⟨rfl, rfl⟩, _, Js', v', p1, fun j Q hj => ?_, ?_, h.turnR p2 p3, p3⟩
  ·have hj' : (a.js.set i { P with done := true })[j]? = some Q := hj
   rw [hset] at hj'
   by_cases e : i = j
   ·subst e; rw [if_pos rfl] at hj'; cases hj'; exact hn i P hi
   ·rw [if_neg e] at hj'; exact hn j Q hj'
  ·show (a.js.set i { P with done := true })[i]? = _
   rw [hset, if_pos rfl]
end
end Go.Proofs.YtklobognaldjpaaGreat
