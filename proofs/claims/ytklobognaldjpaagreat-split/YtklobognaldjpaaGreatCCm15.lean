/- The maker of code: what is declared. The maker of code: a routine begins. The maker of code: a routine begins, whole. -/
import Derived.Test.YtklobognaldjpaaGreatCCm9
import Derived.Test.YtklobognaldjpaaGreatCLk9
import Derived.Deep.CutRange
set_option maxRecDepth 1000000
set_option maxHeartbeats 4000000
namespace Go.Proofs.YtklobognaldjpaaGreat
open Go.RowKit
section
variable {base mb gm ng nl : Nat} {lm : Option Nat} {w w' w1 : World} {M : Mkr} {v v' : Value}
theorem MK.putG (h : MK base mb gm ng nl lm w M v) (hg : w.grownBy w1 (some gm)) {g' : ByteArray -> Nat × Nat} (hm : MapIs w1 gm (ng + 1) g') :
  MK base mb gm (ng + 1) nl lm w1 { M with E := { M.E with g := g' } } v /\ Fr (fun b => b = mb ∨ b = gm) w w1 := by
 have hb : ∀ b, b < w.heap.size -> b ≠ gm -> w1.heap[b]? = w.heap[b]? := fun b hb hne => hg.block b hb (fun e => hne (Option.some.inj e))
 have hmb : w1.heap[mb]? = w.heap[mb]? := hb mb h.lt (Ne.symm h.gne)
 have ec : ∀ o, w1.cell? ⟨mb, o, none⟩ = w.cell? ⟨mb, o, none⟩ := fun o => World.cell?_of_block (w := w) hmb
 refine ⟨⟨by rw [ec]; exact h.wd, by rw [ec]; exact h.pl, by rw [ec]; exact h.gl, by rw [ec]; exact h.lo, by rw [ec]; exact h.rs, fun o => by rw [World.frozen?_of_block (w := w) hmb]; exact h.frz o, ?_, hm, ?_, h.lnil, h.mlt, Nat.le_trans h.bas hg.size, h.gne, h.lne⟩, Fr.of_grown hg (.inr rfl)⟩
 ·have hr := h.row
  obtain ⟨h1, h2⟩ := h.own
  refine ⟨h1, ?_⟩
  rcases h2 with h2 | ⟨k, cap, cur, hv, hbk, hh, r⟩
  ·exact .inl h2
  ·have := hr k (by rw [hv]; rfl)
   exact .inr ⟨k, cap, cur, hv, hbk, by rw [hb k this.2.1 this.2.2.2.1]; exact hh, r⟩
 ·intro b hl
  exact (h.lmap b hl).block (hb b (h.lmap b hl).lt (h.lne b hl).2)
theorem MK.setP (h : MK base mb gm ng nl lm w M v) (k : Nat) : MK base mb gm ng nl lm (w.setCell ⟨mb, 1, none⟩ (.int .i64 (k : Nat))) { M with places := k } v /\ Fr (fun b => b = mb ∨ b = gm) w (w.setCell ⟨mb, 1, none⟩ (.int .i64 (k : Nat))) := by
 have hbs : ∀ b, b ≠ mb -> (w.setCell ⟨mb, 1, none⟩ (.int .i64 (k : Nat))).heap[b]? = w.heap[b]? := fun b hb => Below.heap_setCell _ _ _ _ hb
 have es : ∀ o, o ≠ 1 -> (w.setCell ⟨mb, 1, none⟩ (.int .i64 (k : Nat))).cell? ⟨mb, o, none⟩ = w.cell? ⟨mb, o, none⟩ := fun o ho => World.cell?_setCell_other _ _ _ _ (by intro e; cases e; exact ho rfl)
 refine ⟨⟨by rw [es _ (by omega)]; exact h.wd, World.cell?_setCell_same _ _ _ h.pl, by rw [es _ (by omega)]; exact h.gl, by rw [es _ (by omega)]; exact h.lo, by rw [es _ (by omega)]; exact h.rs, fun o => by rw [World.frozen?_setCell]; exact h.frz o, ?_,
  h.gmap.block (hbs gm h.gne), fun b hl => (h.lmap b hl).block (hbs b (h.lne b hl).1), h.lnil, h.mlt, by have := h.bas; simp [World.setCell]; omega, h.gne, h.lne⟩, ⟨rfl, rfl, rfl, by simp [World.setCell], fun b _ hn => hbs b (fun e => hn (.inl e))⟩⟩
 have hr := h.row
 obtain ⟨h1, h2⟩ := h.own
 refine ⟨h1, ?_⟩
 rcases h2 with h2 | ⟨g, cap, cur, hv, hbk, hh, r⟩
 ·exact .inl h2
 ·exact .inr ⟨g, cap, cur, hv, hbk, by rw [hbs g (hr g (by rw [hv]; rfl)).2.2.1]; exact hh, r⟩
theorem reserve_any (h : MK base mb gm ng nl lm w M v) {n : ByteArray} (hn : n.size <= maxLen) (p size : Nat) (hng : ng < maxLen) (hbig : M.places + size <= 1000000) :
  Calls Tryz.prog 129 #[.pointer (some ⟨mb, 0, none⟩), .agg #[.string n, .int .i64 p], .int .i64 size] w fun e w' => e = .returned (.tuple #[]) /\
   MK base mb gm (ng + 1) nl lm w' ⟨M.words, M.places + size, { M.E with g := putG M.E.g n (M.places, size) }⟩ v /\ Fr (fun b => b = mb ∨ b = gm) w w' := by
 have hlt := h.lt
 have k1 : ∀ A, Below w.heap.size w (w.alloc A) := fun A => (Below.refl _ _).alloc (Nat.le_refl _) _
 have hA := h.below (k1 (.cells #[.string n, .int .i64 p] 210)).drew
 obtain ⟨w1, hrun, hm1, hg1⟩ := hA.gmap.updateG hn hng (M.places, size)
 obtain ⟨hB, hF⟩ := hA.putG hg1 hm1
 have hC := hB.setP (M.places + size)
 have hgl : (w.alloc (.cells #[.string n, .int .i64 p] 210)).cell? ⟨mb, 2, none⟩ = some (.map (some gm)) := hA.gl
 have hpl : (w.alloc (.cells #[.string n, .int .i64 p] 210)).cell? ⟨mb, 1, none⟩ = some (.int .i64 M.places) := hA.pl
 have hp1 := hB.pl
 have hz1 := hB.frz 1
 have HC : Hid _ := hC
 have HF : Hid _ := hF
 have HK : Hid _ := (Fr.of_below (S := fun b => b = mb ∨ b = gm) (k1 (.cells #[.string n, .int .i64 p] 210)).drew)
 unfold symV at hrun
 clear hC hF hB hm1 hg1 hA h k1
 simp only at hp1 hrun
 generalize M.places = pl at *
 go_enter Tryz.func129, Tryz.ntmps129
 go_wp2
 go_region
 all_goals go_wp2
 all_goals go_end0
 all_goals exact ⟨rfl, HC.out.1, HK.out.trans (HF.out.trans HC.out.2)⟩
end
def nmL (l : List (ByteArray × Nat)) : ByteArray -> Option Nat := fun n => (l.map (·.1)).findIdx? fun x => eqB x n
def DistN (l : List (ByteArray × Nat)) : Prop := ∀ j x, l[j]? = some x -> nmL (l.take j) x.1 = none
theorem eqB_of {a b c : ByteArray} (h1 : eqB a c = true) (h2 : eqB b c = true) : eqB a b = true := by
 unfold eqB at *
 have e1 : a.toList = c.toList := by simpa using h1
 have e2 : b.toList = c.toList := by simpa using h2
 simp [e1, e2]
theorem nmL_put {l : List (ByteArray × Nat)} {j : Nat} {x : ByteArray × Nat} (hj : l[j]? = some x) (hn : nmL (l.take j) x.1 = none) : putL (nmL (l.take j)) x.1 j = nmL (l.take (j + 1)) := by
 have hlt : j < l.length := (List.getElem?_eq_some_iff.1 hj).1
 have e : l.take (j + 1) = l.take j ++ [x] := by rw [List.take_add_one, hj]; rfl
 funext n
 unfold putL
 rw [e]
 unfold nmL at *
 rw [List.map_append, List.findIdx?_append]
 have hl : ((l.take j).map (·.1)).length = j := by rw [List.length_map, List.length_take]; omega
 by_cases hx : eqB x.1 n = true
 ·rw [if_pos hx]
  have hnone : ((l.take j).map (·.1)).findIdx? (fun y => eqB y n) = none := by
   rw [List.findIdx?_eq_none_iff] at hn ⊢
   intro y hy
   have := hn y hy
   cases hy2 : eqB y n with
   | false => rfl
   | true => rw [eqB_of hy2 hx] at this; cases this
  rw [hnone, hl]
  simp [List.findIdx?_cons, hx]
 ·have hx' : eqB x.1 n = false := by simpa using hx
  rw [if_neg hx]
  cases hk : ((l.take j).map (·.1)).findIdx? (fun y => eqB y n) with
  | some k => rfl
  | none => simp [List.findIdx?_cons, hx']
section
variable {base mb gm ng nl : Nat} {lm : Option Nat} {w w' w1 : World} {M : Mkr} {v v' : Value}
theorem MK.putL {lb : Nat} (h : MK base mb gm ng nl (some lb) w M v) (hg : w.grownBy w1 (some lb)) {l' : ByteArray -> Option Nat} {many : Nat} (hm : LocIs w1 lb (nl + 1) l' many) :
  MK base mb gm ng (nl + 1) (some lb) w1 { M with E := { M.E with l := l', n := many } } v /\ Fr (fun b => b = lb) w w1 := by
 have hb : ∀ b, b < w.heap.size -> b ≠ lb -> w1.heap[b]? = w.heap[b]? := fun b hb hne => hg.block b hb (fun e => hne (Option.some.inj e))
 have hne := h.lne lb rfl
 have hmb : w1.heap[mb]? = w.heap[mb]? := hb mb h.lt (Ne.symm hne.1)
 have ec : ∀ o, w1.cell? ⟨mb, o, none⟩ = w.cell? ⟨mb, o, none⟩ := fun o => World.cell?_of_block (w := w) hmb
 refine ⟨⟨by rw [ec]; exact h.wd, by rw [ec]; exact h.pl, by rw [ec]; exact h.gl, by rw [ec]; exact h.lo, by rw [ec]; exact h.rs, fun o => by rw [World.frozen?_of_block (w := w) hmb]; exact h.frz o, ?_, h.gmap.block (hb gm h.gmap.lt (Ne.symm hne.2)), ?_, (fun e => by cases e), h.mlt, Nat.le_trans h.bas hg.size, h.gne, h.lne⟩, Fr.of_grown hg rfl⟩
 ·have hr := h.row
  obtain ⟨h1, h2⟩ := h.own
  refine ⟨h1, ?_⟩
  rcases h2 with h2 | ⟨k, cap, cur, hv, hbk, hh, r⟩
  ·exact .inl h2
  ·have := hr k (by rw [hv]; rfl)
   exact .inr ⟨k, cap, cur, hv, hbk, by rw [hb k this.2.1 (this.2.2.2.2 lb rfl)]; exact hh, r⟩
 ·intro b hl
  cases hl
  exact hm
theorem MK.enter (h : MK base mb gm ng nl lm w M v) : MK base mb gm ng 0 (some w.heap.size) ((w.alloc (.map #[] 0)).setCell ⟨mb, 3, none⟩ (.map (some w.heap.size))) { M with E := { M.E with l := fun _ => none, n := 0 } } v /\
  Fr (fun b => b = mb ∨ b = gm) w ((w.alloc (.map #[] 0)).setCell ⟨mb, 3, none⟩ (.map (some w.heap.size))) := by
 have hlt := h.lt
 have hA := h.below ((Below.refl _ w).alloc (Nat.le_refl _) (.map #[] 0))
 have hbs : ∀ b, b ≠ mb -> ((w.alloc (.map #[] 0)).setCell ⟨mb, 3, none⟩ (.map (some w.heap.size))).heap[b]? = (w.alloc (.map #[] 0)).heap[b]? := fun b hb => Below.heap_setCell _ _ _ _ hb
 have es : ∀ o, o ≠ 3 -> ((w.alloc (.map #[] 0)).setCell ⟨mb, 3, none⟩ (.map (some w.heap.size))).cell? ⟨mb, o, none⟩ = (w.alloc (.map #[] 0)).cell? ⟨mb, o, none⟩ := fun o ho => World.cell?_setCell_other _ _ _ _ (by intro e; cases e; exact ho rfl)
 refine ⟨⟨by rw [es _ (by omega)]; exact hA.wd, by rw [es _ (by omega)]; exact hA.pl, by rw [es _ (by omega)]; exact hA.gl, World.cell?_setCell_same _ _ _ hA.lo, by rw [es _ (by omega)]; exact hA.rs, fun o => by rw [World.frozen?_setCell]; exact hA.frz o, ?_,
  hA.gmap.block (hbs gm h.gne), ?_, (fun e => by cases e), h.mlt, by have := h.bas; simp [World.setCell]; omega, h.gne, ?_⟩, ?_⟩
 ·have hr := hA.row
  obtain ⟨h1, h2⟩ := hA.own
  refine ⟨h1, ?_⟩
  rcases h2 with h2 | ⟨g, cap, cur, hv, hbk, hh, r⟩
  ·exact .inl h2
  ·exact .inr ⟨g, cap, cur, hv, hbk, by rw [hbs g (hr g (by rw [hv]; rfl)).2.2.1]; exact hh, r⟩
 ·intro b hl
  cases hl
  exact (locIs_made w).block (hbs _ (by omega))
 ·intro b hl
  cases hl
  have := h.gmap.lt
  omega
 ·refine ⟨rfl, rfl, rfl, by simp [World.setCell], fun b hb hn => ?_⟩
  rw [hbs b (fun e => hn (.inl e))]
  exact ((Below.refl _ w).alloc (Nat.le_refl _) (.map #[] 0)).block b hb
theorem names_put {lb : Nat} {ns : List (ByteArray × Nat)} {j : Nat} {x : ByteArray × Nat} {W : World} (h : MK base mb gm ng j (some lb) w M v) (hl : M.E.l = nmL (ns.take j)) (hn : M.E.n = j) (hj : ns[j]? = some x) (hd : DistN ns) (hx : x.1.size <= maxLen) (hjm : j < maxLen) (hW : Below w.heap.size w W) :
  ∃ w1, (Instr.mapUpdate 171 (.map (some lb)) (.string x.1) (.int .i64 j)).run Tryz.prog W = .ok () w1 /\ MK base mb gm ng (j + 1) (some lb) w1 { M with E := { M.E with l := nmL (ns.take (j + 1)), n := j + 1 } } v /\ Fr (fun b => b = lb) w w1 := by
 have hB := h.below hW
 have hL := hB.lmap lb rfl
 rw [hl, hn] at hL
 have hno := hd j x hj
 obtain ⟨w1, hr, hm, hg⟩ := hL.put hx hjm hno j
 rw [nmL_put hj hno] at hm
 obtain ⟨h1, h2⟩ := hB.putL hg hm
 exact ⟨w1, hr, h1, (Fr.of_below hW).trans h2⟩
end
section
variable {base mb gm ng nl : Nat} {lm : Option Nat} {w w' w1 : World} {M : Mkr} {v v' : Value} {Q : Nat -> Prop}
theorem begin_any (h : MK base mb gm ng nl lm w M v) (r : Ro) {vp vl : Value} {ba : Option Addr} {bn bc : Nat} (hp : SliceN Q w vp r.params) (hl : SliceN Q w vl r.locals) (hQ : ∀ b, Q b -> b ≠ mb /\ b ≠ gm) (hd : DistN (r.params ++ r.locals))
  (hnm : r.name.1.size <= maxLen) (hns : ∀ x ∈ r.params ++ r.locals, x.1.size <= maxLen) (hng : ng < maxLen) (hlen : r.params.length + r.locals.length <= 1000) :
  Calls Tryz.prog 153 #[.pointer (some ⟨mb, 0, none⟩), .agg #[.string r.name.1, .int .i64 r.name.2, vp, vl, .slice ba bn bc]] w fun e w' => e = .returned (.tuple #[]) /\
   ∃ lb nl', MK base mb gm (ng + 1) nl' (some lb) w' ⟨M.words, M.places, ⟨putG M.E.g r.name.1 (M.words.length, 0), nmL (r.params ++ r.locals), r.params.length + r.locals.length, M.E.res⟩⟩ v /\ Fr (fun b => b = mb ∨ b = gm) w w' := by
 have hlt := h.lt
 have hgt := h.gmap.lt
 obtain ⟨pa, pc, rfl⟩ := hp.len
 obtain ⟨la, lc, rfl⟩ := hl.len
 have HP : Hid (SliceN Q w (.slice pa r.params.length pc) r.params) := hp
 have HL : Hid (SliceN Q w (.slice la r.locals.length lc) r.locals) := hl
 have HD : Hid (DistN (r.params ++ r.locals)) := hd
 have HNS : Hid (∀ x ∈ r.params ++ r.locals, x.1.size <= maxLen) := hns
 have hmk := fun W => run_makeMap (P := Tryz.prog) 171 W
 have k1 : ∀ A, Below w.heap.size w (w.alloc A) := fun A => (Below.refl _ _).alloc (Nat.le_refl _) _
 generalize hAe : Obj.cells #[.string r.name.1, .int .i64 r.name.2, .slice pa r.params.length pc, .slice la r.locals.length lc, .slice ba bn bc] 218 = A
 have hA := h.below (k1 A).drew
 obtain ⟨w1, hrun, hm1, hg1⟩ := hA.gmap.updateG hnm hng (M.words.length, 0)
 obtain ⟨hB, hF⟩ := hA.putG hg1 hm1
 have hlenW : ∀ ty W, (Builtin.len_ #[23] ty #[v]).run Tryz.prog W = .ok (.int .i64 M.words.length) W := by
  intro ty W
  rcases h.own.2 with ⟨rfl, e⟩ | ⟨g, cap, cur, rfl, _⟩
  ·rw [e]; kernel_rfl
  ·kernel_rfl
 have hgl : (w.alloc A).cell? ⟨mb, 2, none⟩ = some (.map (some gm)) := hA.gl
 have hwd : (w.alloc A).cell? ⟨mb, 0, none⟩ = some v := hA.wd
 have q0 : ∀ o, (w.alloc A).cell? ⟨w.heap.size, o, none⟩ = #[Value.string r.name.1, .int .i64 r.name.2, .slice pa r.params.length pc, .slice la r.locals.length lc, .slice ba bn bc][o]? := fun o => by rw [<- hAe]; exact World.cell?_alloc_new w _ _ o
 have hF0 : Fr (fun b => b = mb ∨ b = gm) (w.alloc A) w1 := (Fr.of_below (Below.refl _ _).drew).trans hF
 have q1 : ∀ o, w1.cell? ⟨w.heap.size, o, none⟩ = #[Value.string r.name.1, .int .i64 r.name.2, .slice pa r.params.length pc, .slice la r.locals.length lc, .slice ba bn bc][o]? := fun o => by
  rw [hF0.cell (by simp) (by omega), q0]
 have hlo1 := hB.lo
 have hz3 := hB.frz 3
 have hlt1 := hB.lt
 obtain ⟨hC, hF1⟩ := hB.enter
 have hF2 : Fr (fun b => b = mb ∨ b = gm) (w.alloc A) ((w1.alloc (.map #[] 0)).setCell ⟨mb, 3, none⟩ (.map (some w1.heap.size))) := hF0.trans hF1
 rw [World.setCell_alloc_past _ _ _ _ hlt1] at hC hF2
 have hszA : (w.alloc A).heap.size = w.heap.size + 1 := by simp
 have hlb : w.heap.size < w1.heap.size := by have := hF0.size; omega
 have HC : Hid _ := hC
 have HF2 : Hid _ := hF2
 unfold symV at hrun
 simp only at hrun
 rw [show ((0 : Nat) : Int) = 0 from rfl] at hrun
 have q00 := q0 0
 have q12 := q1 2
 clear hC hF1 hF0 hF hB hm1 hg1 hA hp hl hd hns hF2 h q0 q1
 go_enter Tryz.func153, Tryz.ntmps153
 go_upto_region 1 with fail
 go_cut [] from 8 to 20 (fun wx => Hid (wx = w1))
 case first =>
  go_region
  all_goals (go_wp2_with fail; go_meet; exact rfl)
 case rest =>
  have hwc := hcut.out
  clear hcut
  subst hwc
  clear hrun hgl hwd q00 hlenW
  generalize hlbe : wc.heap.size = lb at *
  go_wp2
  go_loopw [5, 28] (fun _ i wr => ∃ j : Nat, i = .int .i64 j /\ j <= r.params.length /\ MK base mb gm (ng + 1) j (some lb) wr ⟨M.words, M.places, ⟨putG M.E.g r.name.1 (M.words.length, 0), nmL ((r.params ++ r.locals).take j), j, M.E.res⟩⟩ v /\ Fr (fun b => b = mb ∨ b = gm ∨ (w.alloc A).heap.size <= b) (w.alloc A) wr) (fun _ i _ => r.params.length - (intOf i).toNat)
  case atStart => exact ⟨0, rfl, Nat.zero_le _, by rw [List.take_zero, show nmL [] = fun _ => none from by funext n; rfl]; exact HC.out, Fr.weak HF2.out fun b _ hb => hb.elim Or.inl fun e => Or.inr (Or.inl e)⟩
  case round =>
   obtain ⟨j, rfl, hj, hM, hFj⟩ := hrel
   have hbox : ∀ o, wr.cell? ⟨w.heap.size, o, none⟩ = #[Value.string r.name.1, .int .i64 r.name.2, .slice pa r.params.length pc, .slice la r.locals.length lc, .slice ba bn bc][o]? := fun o => by
    rw [hFj.cell (by simp) (by omega), <- hAe]; exact World.cell?_alloc_new w _ _ o
   by_cases hlt2 : j < r.params.length
   ·obtain ⟨b, cap, hv, hqb, hbl, hx0, hx1⟩ := HP.out.at hlt2
    injection hv with hv1 hv2 hv3
    subst hv1 hv3
    clear hv2
    have hfr : ∀ o, wr.cell? ⟨b, o, none⟩ = w.cell? ⟨b, o, none⟩ := fun o => by
     rw [hFj.cell (by omega) (by have := hQ b hqb; omega), World.cell?_alloc_lt _ _ _ hbl]
    rw [<- hfr] at hx0 hx1
    have hwl := hM.lt
    have hget : (r.params ++ r.locals)[j]? = some r.params[j] := by rw [List.getElem?_append_left hlt2]; exact List.getElem?_eq_getElem hlt2
    have hsz := HNS.out r.params[j] (List.mem_append_left _ (List.getElem_mem hlt2))
    have kx : ∀ X, Below wr.heap.size wr (wr.alloc X).drew := fun X => ((Below.refl _ _).alloc (Nat.le_refl _) X).drew
    obtain ⟨w6, hr6, hM6, hF6⟩ := names_put hM rfl rfl hget HD.out hsz (by unfold maxLen; omega) (kx (.cells #[.string r.params[j].1, .int .i64 r.params[j].2] 210))
    have hl6 := (hM.below (kx (.cells #[.string r.params[j].1, .int .i64 r.params[j].2] 210))).len
    have hlo6 : (wr.alloc (.cells #[.string r.params[j].1, .int .i64 r.params[j].2] 210)).cell? ⟨mb, 3, none⟩ = some (.map (some lb)) := (hM.below (kx _)).lo
    have HM6 : Hid _ := hM6
    have HF6 : Hid (Fr (fun b => b = mb ∨ b = gm ∨ (w.alloc A).heap.size <= b) (w.alloc A) w6) := hFj.trans (hF6.weak fun k _ e => .inr (.inr (by subst e; omega)))
    simp only at hl6
    clear hM6 hF6 hM hFj hfr hbox hget HC HF2 HP HL
    generalize r.params[j] = x at *
    go_wp2
    go_region
    all_goals go_wp2_with fail
    all_goals go_roundw
    all_goals first
     | exact ⟨j + 1, by go_num, by omega, HM6.out, HF6.out⟩
     | (simp [intOf]; omega)
   ·have ej : j = r.params.length := by omega
    subst ej
    have hb3 := hbox 3
    have hwl := hM.lt
    have hM9 : MK base mb gm (ng + 1) r.params.length (some lb) wr ⟨M.words, M.places, ⟨putG M.E.g r.name.1 (M.words.length, 0), nmL ((r.params ++ r.locals).take (r.params.length + 0)), r.params.length + 0, M.E.res⟩⟩ v := hM
    have HM9 : Hid _ := hM9
    have HFj : Hid _ := hFj
    clear HC HF2 HP hM hM9 hFj hbox hlt2 hj
    go_wp2
    go_loopw [7, 47] (fun _ i wr => ∃ j : Nat, i = .int .i64 j /\ j <= r.locals.length /\ MK base mb gm (ng + 1) (r.params.length + j) (some lb) wr ⟨M.words, M.places, ⟨putG M.E.g r.name.1 (M.words.length, 0), nmL ((r.params ++ r.locals).take (r.params.length + j)), r.params.length + j, M.E.res⟩⟩ v /\ Fr (fun b => b = mb ∨ b = gm ∨ (w.alloc A).heap.size <= b) (w.alloc A) wr) (fun _ i _ => r.locals.length - (intOf i).toNat)
    case atStart => exact ⟨0, rfl, Nat.zero_le _, HM9.out, HFj.out⟩
    case round =>
     clear HM9 HFj hb3 hwl
     obtain ⟨j, rfl, hj, hM, hFj⟩ := hrel
     by_cases hlt2 : j < r.locals.length
     ·obtain ⟨b, cap, hv, hqb, hbl, hx0, hx1⟩ := HL.out.at hlt2
      injection hv with hv1 hv2 hv3
      subst hv1 hv3
      clear hv2
      have hfr : ∀ o, wr.cell? ⟨b, o, none⟩ = w.cell? ⟨b, o, none⟩ := fun o => by
       rw [hFj.cell (by omega) (by have := hQ b hqb; omega), World.cell?_alloc_lt _ _ _ hbl]
      rw [<- hfr] at hx0 hx1
      have hwl := hM.lt
      have hget : (r.params ++ r.locals)[r.params.length + j]? = some r.locals[j] := by rw [List.getElem?_append_right (by omega), Nat.add_sub_cancel_left]; exact List.getElem?_eq_getElem hlt2
      have hsz := HNS.out r.locals[j] (List.mem_append_right _ (List.getElem_mem hlt2))
      have kx : ∀ X, Below wr.heap.size wr (wr.alloc X).drew := fun X => ((Below.refl _ _).alloc (Nat.le_refl _) X).drew
      obtain ⟨w6, hr6, hM6, hF6⟩ := names_put hM rfl rfl hget HD.out hsz (by unfold maxLen; omega) (kx (.cells #[.string r.locals[j].1, .int .i64 r.locals[j].2] 210))
      have hl6 := (hM.below (kx (.cells #[.string r.locals[j].1, .int .i64 r.locals[j].2] 210))).len
      have hlo6 : (wr.alloc (.cells #[.string r.locals[j].1, .int .i64 r.locals[j].2] 210)).cell? ⟨mb, 3, none⟩ = some (.map (some lb)) := (hM.below (kx _)).lo
      have HM6 : Hid _ := hM6
      have HF6 : Hid (Fr (fun b => b = mb ∨ b = gm ∨ (w.alloc A).heap.size <= b) (w.alloc A) w6) := hFj.trans (hF6.weak fun k _ e => .inr (.inr (by subst e; omega)))
      simp only at hl6
      clear hM6 hF6 hM hFj hfr hget HL
      generalize r.locals[j] = x at *
      generalize hpj : r.params.length + j = pj at *
      go_wp2
      go_region
      all_goals go_wp2_with fail
      all_goals go_roundw
      all_goals first
       | exact ⟨j + 1, by go_num, by omega, by rw [show r.params.length + (j + 1) = pj + 1 by omega]; exact HM6.out, HF6.out⟩
       | (simp [intOf]; omega)
     ·have ej : j = r.locals.length := by omega
      subst ej
      rw [List.take_of_length_le (by rw [List.length_append]; omega)] at hM
      clear HL
      go_wp2
      go_end0
      exact ⟨rfl, lb, _, hM, (Fr.of_below (k1 A)).trans ⟨hFj.os, hFj.tape, hFj.output, hFj.size, fun k hk hn => hFj.block k hk (by rintro (e | e | e); exact hn (.inl e); exact hn (.inr e); omega)⟩⟩
end
end Go.Proofs.YtklobognaldjpaaGreat
