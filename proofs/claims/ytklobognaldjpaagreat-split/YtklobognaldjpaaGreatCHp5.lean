/- Jobs in a heap: one is laid there, one is taken away. Jobs in a heap: Push, Pop, Fix. -/
import Derived.Test.YtklobognaldjpaaGreatCHp3
set_option maxRecDepth 1000000
set_option maxHeartbeats 2000000
namespace Go.Proofs.YtklobognaldjpaaGreat
open Go.RowKit
theorem Tryz.infoJob : (Tryz.prog.info? 103).map (fun i => (i.zero, i.size, i.bytes)) = some (some (.pointer none), 1, 8) := by kernel_rfl
@[go_sem] theorem asJob_yes (v : Value) (w : World) : (Instr.typeAssert (.iface 103 v) 20 103 false).run Tryz.prog w = .ok v w := by kernel_rfl
theorem row_kept {w w' : World} {base : Nat} {e : TypeId} {size : Nat} {v : Value} {n : Nat} {xs : List Value} (h : w.ownsRow base e size v n xs) (hk : ∀ k, v.ownBlock = some k -> w'.heap[k]? = w.heap[k]?) : w'.ownsRow base e size v n xs := by
 obtain ⟨h1, h2⟩ := h
 refine ⟨h1, ?_⟩
 rcases h2 with h2 | ⟨g, cap, cur, hv, hg, hh, r⟩
 ·exact .inl h2
 ·exact .inr ⟨g, cap, cur, hv, hg, by rw [hk g (by rw [hv]; rfl)]; exact hh, r⟩
theorem owned_row {w : World} {base : Nat} {e : TypeId} {size : Nat} {v : Value} {n : Nat} {xs : List Value} (h : w.ownsRow base e size v n xs) : ∃ a c, v = .slice a n c /\ n <= c := by
 rcases h.2 with ⟨h3, h4⟩ | ⟨g, c, cur, h3, _, _, h5, _⟩
 ·exact ⟨none, 0, by rw [h3, h4], by omega⟩
 ·exact ⟨_, _, h3, h5⟩
theorem row_first {w : World} {base : Nat} {e : TypeId} {size g cap n : Nat} {xs : List Value} (h : w.ownsRow base e size (.slice (some ⟨g, 0, none⟩) n cap) n xs) {k : Nat} (hk : k <= n) : w.ownsRow base e size (.slice (some ⟨g, 0, none⟩) k cap) k (xs.take (k * size)) := by
 obtain ⟨h1, h2⟩ := h
 have hm : k * size <= n * size := Nat.mul_le_mul_right _ hk
 rcases h2 with ⟨h0, _⟩ | ⟨g', cap', cur, hv, hg, hh, hn, hcap, hsz, htake⟩
 ·cases h0
 ·cases hv
  refine ⟨by rw [List.length_take]; omega, .inr ⟨g, cap, cur, rfl, hg, hh, by omega, hcap, hsz, ?_⟩⟩
  rw [<- htake, List.take_take, Nat.min_eq_left hm]
def KeyAt (ky : Nat -> Int × Int) (w : World) (b : Nat) : Prop := w.cell? ⟨b, 0, none⟩ = some (.int .i64 (ky b).2) /\ w.cell? ⟨b, 3, none⟩ = some (.int .i64 (ky b).1)
theorem KeyAt.lt {ky : Nat -> Int × Int} {w : World} {b : Nat} (h : KeyAt ky w b) : b < w.heap.size := lt_of_cell h.1
theorem KeyAt.fr {ky : Nat -> Int × Int} {w w' : World} {b : Nat} {S : Nat -> Prop} (h : KeyAt ky w b) (hF : Fr S w w') (hs : ¬ S b) : KeyAt ky w' b :=
 ⟨by rw [hF.cell h.lt hs 0]; exact h.1, by rw [hF.cell h.lt hs 3]; exact h.2⟩
structure HQ (ky : Nat -> Int × Int) (rb o : Nat) (v : Value) (w : World) (l : List Nat) : Prop where
 cel : w.cell? ⟨rb, o, none⟩ = some v
 frz : w.frozen? ⟨rb, o, none⟩ = false
 own : w.ownsRow 0 103 1 v l.length (l.map ptrV)
 ne : v.ownBlock ≠ some rb
 key : ∀ b ∈ l, KeyAt ky w b /\ v.ownBlock ≠ some b /\ b ≠ rb
def Oth (rb o : Nat) (w w' : World) : Prop := ∀ k, (k ≠ o -> w'.cell? ⟨rb, k, none⟩ = w.cell? ⟨rb, k, none⟩) /\ w'.frozen? ⟨rb, k, none⟩ = w.frozen? ⟨rb, k, none⟩
theorem Oth.trans {rb o : Nat} {a b c : World} (h : Oth rb o a b) (k : Oth rb o b c) : Oth rb o a c := fun x => ⟨fun hx => ((k x).1 hx).trans ((h x).1 hx), (k x).2.trans (h x).2⟩
theorem Oth.of_block {rb o : Nat} {w w' : World} (h : w'.heap[rb]? = w.heap[rb]?) : Oth rb o w w' := fun _ => ⟨fun _ => World.cell?_of_block (w := w) h, World.frozen?_of_block (w := w) h⟩
theorem Oth.set (rb o : Nat) (w : World) (v : Value) : Oth rb o w (w.setCell ⟨rb, o, none⟩ v) := fun x => ⟨fun hx => World.cell?_setCell_other _ _ _ _ (by intro e; cases e; exact hx rfl), World.frozen?_setCell _ _ _ _⟩
section
variable {ky : Nat -> Int × Int} {rb o : Nat} {v : Value} {w w' : World} {l : List Nat}
theorem HQ.hs {g cap : Nat} (h : HQ ky rb o (.slice (some ⟨g, 0, none⟩) l.length cap) w l) : HS ky g cap w l :=
 ⟨h.own, fun b hb => ⟨(h.key b hb).1.1, (h.key b hb).1.2, fun e => (h.key b hb).2.1 (by rw [e]; rfl)⟩⟩
theorem HQ.ofHs {g cap : Nat} {l' : List Nat} (h : HQ ky rb o (.slice (some ⟨g, 0, none⟩) l.length cap) w l) (hs : HS ky g cap w' l') (hF : Fr (fun b => b = g) w w') (hl : l'.length = l.length) (hm : ∀ b ∈ l', b ∈ l) : HQ ky rb o (.slice (some ⟨g, 0, none⟩) l'.length cap) w' l' := by
 have hgr : rb ≠ g := fun e => h.ne (by rw [e]; rfl)
 refine ⟨by rw [hF.cell (lt_of_cell h.cel) hgr o, hl]; exact h.cel, ?_, hs.own, h.ne, fun b hb => ?_⟩
 ·rw [World.frozen?_of_block (w := w) (hF.block rb (lt_of_cell h.cel) hgr)]; exact h.frz
 ·obtain ⟨k1, k2, k3⟩ := hs.key b hb
  exact ⟨⟨k1, k2⟩, fun e => k3 (by simpa [Value.ownBlock] using e.symm), (h.key b (hm b hb)).2.2⟩
theorem jpush_any (h : HQ ky rb o v w l) {jb : Nat} (hj : KeyAt ky w jb) (hjr : jb ≠ rb) (hjv : v.ownBlock ≠ some jb) (hl : l.length <= 100) :
  Calls Tryz.prog 252 #[.pointer (some ⟨rb, o, none⟩), .iface 103 (.pointer (some ⟨jb, 0, none⟩))] w fun e w' => e = .returned (.tuple #[]) /\ ∃ g cap, HQ ky rb o (.slice (some ⟨g, 0, none⟩) (l.length + 1) cap) w' (l ++ [jb]) /\ Fr (fun b => b = rb ∨ v.ownBlock = some b) w w' /\ (v.ownBlock = some g ∨ w.heap.size <= g) /\ Oth rb o w w' := by
 obtain ⟨i0, hi, hz0, hz1, hz2⟩ := info_parts Tryz.infoJob
 obtain ⟨va, vc, hv, _⟩ := owned_row h.own
 have hrl : rb < w.heap.size := lt_of_cell h.cel
 have hcel := h.cel
 rw [hv] at hcel
 have hown : (w.alloc (.cells #[.pointer (some ⟨jb, 0, none⟩)] 103)).drew.ownsRow 0 103 1 (.slice va l.length vc) l.length (l.map ptrV) := by
  have := (h.own.alloc (.cells #[.pointer (some ⟨jb, 0, none⟩)] 103)).drew
  rwa [hv] at this
 have hnb : (w.alloc (.cells #[.pointer (some ⟨jb, 0, none⟩)] 103)).heap[w.heap.size]? = some (.cells #[.pointer (some ⟨jb, 0, none⟩)] 103) := heap_alloc_new w _
 have k1 : Below w.heap.size w (w.alloc (.cells #[.pointer (some ⟨jb, 0, none⟩)] 103)).drew := ((Below.refl _ _).alloc (Nat.le_refl _) _).drew
 have HG : Hid (∀ (w1 : World) (gg cp : Nat), (w.alloc (.cells #[.pointer (some ⟨jb, 0, none⟩)] 103)).drew.grownBy w1 (Value.slice va l.length vc).ownBlock -> w1.ownsRow 0 103 1 (.slice (some ⟨gg, 0, none⟩) (l.length + 1) cp) (l.length + 1) (l.map ptrV ++ [.pointer (some ⟨jb, 0, none⟩)]) -> ((Value.slice va l.length vc).ownBlock = some gg ∨ gg = w.heap.size + 1) ->
   (w1.cell? ⟨rb, o, none⟩ = some (.slice va l.length vc) /\ w1.frozen? ⟨rb, o, none⟩ = false) /\
   (HQ ky rb o (.slice (some ⟨gg, 0, none⟩) (l.length + 1) cp) (w1.setCell ⟨rb, o, none⟩ (.slice (some ⟨gg, 0, none⟩) (l.length + 1) cp)) (l ++ [jb]) /\ Fr (fun b => b = rb ∨ v.ownBlock = some b) w (w1.setCell ⟨rb, o, none⟩ (.slice (some ⟨gg, 0, none⟩) (l.length + 1) cp)) /\ (v.ownBlock = some gg ∨ w.heap.size <= gg) /\ Oth rb o w (w1.setCell ⟨rb, o, none⟩ (.slice (some ⟨gg, 0, none⟩) (l.length + 1) cp)))) := by
  intro w1 gg cp hg ho hat
  rw [<- hv] at hg hat
  have hF : Fr (fun b => b = rb ∨ v.ownBlock = some b) w w1 := (Fr.of_below k1).trans ⟨hg.os, hg.tape, hg.output, hg.size, fun k hk hn => hg.block k hk fun e => hn (.inr e.symm)⟩
  have hFv : Fr (fun b => v.ownBlock = some b) w w1 := (Fr.of_below k1).trans ⟨hg.os, hg.tape, hg.output, hg.size, fun k hk hn => hg.block k hk fun e => hn e.symm⟩
  have c1 : w1.cell? ⟨rb, o, none⟩ = some v := by rw [hFv.cell hrl h.ne o]; exact h.cel
  have f1 : w1.frozen? ⟨rb, o, none⟩ = false := by rw [World.frozen?_of_block (w := w) (hFv.block rb hrl h.ne)]; exact h.frz
  have hgr : gg ≠ rb := by
   rcases hat with e | e
   ·intro e2; exact h.ne (by rw [e, e2])
   ·omega
  have hF2 : Fr (fun b => b = rb) w1 (w1.setCell ⟨rb, o, none⟩ (.slice (some ⟨gg, 0, none⟩) (l.length + 1) cp)) := ⟨rfl, rfl, rfl, by simp [World.setCell], fun b hb hn => Below.heap_setCell _ _ _ _ hn⟩
  refine ⟨⟨by rw [<- hv]; exact c1, f1⟩, ⟨?_, ?_, ?_, ?_, fun b hb => ?_⟩, hF.trans (hF2.weak fun k _ e => .inl e), ?_, (Oth.of_block (hFv.block rb hrl h.ne)).trans (Oth.set _ _ _ _)⟩
  ·exact World.cell?_setCell_same _ _ _ c1
  ·rw [World.frozen?_setCell]; exact f1
  ·have e : (l ++ [jb]).map ptrV = l.map ptrV ++ [.pointer (some ⟨jb, 0, none⟩)] := by rw [List.map_append]; rfl
   rw [e, List.length_append]
   exact row_kept ho fun k hk => by
    have : gg = k := by simpa [Value.ownBlock] using hk
    exact Below.heap_setCell _ _ _ _ (by intro e; exact hgr (this.trans e))
  ·intro e; exact hgr (by simpa [Value.ownBlock] using e)
  ·have hbk : KeyAt ky w b /\ v.ownBlock ≠ some b /\ b ≠ rb := by
    rcases List.mem_append.1 hb with hb | hb
    ·exact h.key b hb
    ·rw [List.mem_singleton] at hb; subst hb; exact ⟨hj, hjv, hjr⟩
   refine ⟨(hbk.1.fr hFv hbk.2.1).fr hF2 hbk.2.2, fun e => ?_, hbk.2.2⟩
   have e2 : gg = b := by simpa [Value.ownBlock] using e
   rcases hat with e3 | e3
   ·exact hbk.2.1 (by rw [e3, e2])
   ·have := hbk.1.lt; omega
  ·rcases hat with e | e
   ·exact .inl e
   ·exact .inr (by omega)
 generalize hn : l.length = n at *
 clear k1
 go_enter Tryz.func252, Tryz.ntmps252
 go_wp2
 go_region_law
  ((refine step_append_lies _ (by rfl) _ _ _ (by rfl) 0 103 i0 _ 1 8 Tryz.underlying105 hi hz0 hz1 hz2 rfl (by omega) (.slice va n vc) n (l.map ptrV) (by rfl) hown ⟨w.heap.size, 0, none⟩ 1 1 [.pointer (some ⟨jb, 0, none⟩)] (by rfl) (by rfl) (World.news_of_block (cs := #[.pointer (some ⟨jb, 0, none⟩)]) (t := 103) (fr := (0, 0)) hnb) (by simp [Value.oneCell']) (by omega) (by unfold maxLen; omega) (by omega) (Nat.zero_le _) (w.heap.size + 1) (by simp) ?_; intro gg cp w1 hown1 hgrow hat hlt1; obtain ⟨⟨q5, qf⟩, HFin⟩ := HG.out w1 gg cp hgrow hown1 hat; have HFi : Hid _ := HFin; clear HFin))
 all_goals go_wp2
 all_goals go_end0
 all_goals exact ⟨rfl, gg, cp, HFi.out⟩
theorem jpop_any {g cap : Nat} {b : Nat} (h : HQ ky rb o (.slice (some ⟨g, 0, none⟩) (l.length + 1) cap) w (l ++ [b])) (hl : l.length <= 100) :
  Calls Tryz.prog 251 #[.pointer (some ⟨rb, o, none⟩)] w fun e w' => e = .returned (.iface 103 (.pointer (some ⟨b, 0, none⟩))) /\ HQ ky rb o (.slice (some ⟨g, 0, none⟩) l.length cap) w' l /\ Fr (fun b => b = rb ∨ b = g) w w' /\ Oth rb o w w' := by
 have hrl : rb < w.heap.size := lt_of_cell h.cel
 have hgr : g ≠ rb := fun e => h.ne (by rw [e]; rfl)
 have hown : w.ownsRow 0 103 1 (.slice (some ⟨g, 0, none⟩) (l.length + 1) cap) (l.length + 1) (l.map ptrV ++ [.pointer (some ⟨b, 0, none⟩)]) := by
  have := h.own
  rw [List.length_append, List.map_append] at this
  exact this
 have hlast : w.cell? ⟨g, l.length, none⟩ = some (.pointer (some ⟨b, 0, none⟩)) := by
  rw [hown.cellAt _ (by omega), List.getElem?_append_right (by simp)]; simp
 have hfl : w.frozen? ⟨g, l.length, none⟩ = false := hown.frozenAt _
 have hcel := h.cel
 have hfrz := h.frz
 obtain ⟨o1, g1⟩ := hown.stored l.length (.pointer none)
 have hcap : l.length + 1 <= cap := by obtain ⟨_, _, e, h2⟩ := owned_row hown; cases e; exact h2
 have hci : ((l.length : Nat) : Int) <= (cap : Int) := by omega
 have c2 : (w.setCell ⟨g, l.length, none⟩ (.pointer none)).cell? ⟨rb, o, none⟩ = some (.slice (some ⟨g, 0, none⟩) (l.length + 1) cap) := by
  rw [World.cell?_setCell_other _ _ _ _ (by intro e; exact hgr (congrArg Addr.block e))]; exact hcel
 have HFin : Hid (HQ ky rb o (.slice (some ⟨g, 0, none⟩) l.length cap) ((w.setCell ⟨g, l.length, none⟩ (.pointer none)).setCell ⟨rb, o, none⟩ (.slice (some ⟨g, 0, none⟩) l.length cap)) l /\ Fr (fun b => b = rb ∨ b = g) w ((w.setCell ⟨g, l.length, none⟩ (.pointer none)).setCell ⟨rb, o, none⟩ (.slice (some ⟨g, 0, none⟩) l.length cap)) /\ Oth rb o w ((w.setCell ⟨g, l.length, none⟩ (.pointer none)).setCell ⟨rb, o, none⟩ (.slice (some ⟨g, 0, none⟩) l.length cap))) := by
  have hF1 : Fr (fun b => b = g) w (w.setCell ⟨g, l.length, none⟩ (.pointer none)) := Fr.of_grown g1 rfl
  have hF2 : Fr (fun b => b = rb) (w.setCell ⟨g, l.length, none⟩ (.pointer none)) ((w.setCell ⟨g, l.length, none⟩ (.pointer none)).setCell ⟨rb, o, none⟩ (.slice (some ⟨g, 0, none⟩) l.length cap)) := ⟨rfl, rfl, rfl, by simp [World.setCell], fun k hk hn => (Below.heap_setCell (w.setCell ⟨g, l.length, none⟩ (.pointer none)) ⟨rb, o, none⟩ _ k hn)⟩
  refine ⟨⟨?_, ?_, ?_, fun e => hgr (by simpa [Value.ownBlock] using e), fun x hx => ?_⟩, (hF1.weak fun k _ e => .inr e).trans (hF2.weak fun k _ e => .inl e), (Oth.of_block (hF1.block rb hrl (fun e => hgr e.symm))).trans (Oth.set _ _ _ _)⟩
  ·exact World.cell?_setCell_same _ _ _ c2
  ·rw [World.frozen?_setCell, World.frozen?_setCell]; exact hfrz
  ·have t : (w.setCell ⟨g, l.length, none⟩ (.pointer none)).ownsRow 0 103 1 (.slice (some ⟨g, 0, none⟩) l.length cap) l.length (l.map ptrV) := by
    have h3 := row_first o1 (k := l.length) (by omega)
    have e : ((l.map ptrV ++ [Value.pointer (some ⟨b, 0, none⟩)]).set l.length (.pointer none)).take (l.length * 1) = l.map ptrV := by
     rw [Nat.mul_one, List.take_set_of_le (by simp), List.take_left' (by simp)]
    rwa [e] at h3
   exact row_kept t fun k hk => by
    have : g = k := by simpa [Value.ownBlock] using hk
    exact Below.heap_setCell _ _ _ _ (by intro e; exact hgr (this.trans e))
  ·obtain ⟨k1, k2, k3⟩ := h.key x (by simp [hx])
   have kg : x ≠ g := fun e => k2 (by rw [e]; rfl)
   exact ⟨(k1.fr hF1 kg).fr hF2 k3, fun e => kg (by simpa [Value.ownBlock] using e.symm), k3⟩
 generalize hn : l.length = n at *
 clear hown o1 g1 h
 go_enter Tryz.func251, Tryz.ntmps251
 go_wp2
 go_ret
 exact ⟨rfl, HFin.out⟩
end
theorem swapL_perm {l : List Nat} {i j : Nat} (hi : i < l.length) (hj : j < l.length) : (swapL l i j).Perm l := by
 rw [List.perm_iff_count]
 intro a
 have e1 : l.getD i 0 = l[i] := by simp [List.getD, hi]
 have e2 : l.getD j 0 = l[j] := by simp [List.getD, hj]
 unfold swapL
 rw [e1, e2, List.count_set (by simpa using hj), List.count_set hi]
 by_cases hij : i = j
 ·subst hij
  simp only [List.getElem_set_self]
  have : (if l[i] == a then 1 else 0) <= l.count a := by
   split
   ·rename_i h; exact List.count_pos_iff.2 (by rw [<- eq_of_beq h]; exact List.getElem_mem _)
   ·omega
  omega
 ·have e3 : (l.set i l[j])[j]'(by simpa using hj) = l[j] := by rw [List.getElem_set_ne hij]
  rw [e3]
  have h1 : (if l[i] == a then 1 else 0) <= l.count a := by
   split
   ·rename_i h; exact List.count_pos_iff.2 (by rw [<- eq_of_beq h]; exact List.getElem_mem _)
   ·omega
  omega
theorem upL_perm (ky : Nat -> Int × Int) : ∀ (f : Nat) (l : List Nat) (j : Nat), j < l.length -> (upL ky f l j).Perm l
 | 0, _, _, _ => List.Perm.refl _
 | f + 1, l, j, hj => by
  rw [upL]; split
  ·exact List.Perm.refl _
  ·exact (upL_perm ky f _ _ (by rw [swapL_len]; omega)).trans (swapL_perm (by omega) hj)
theorem downL_perm (ky : Nat -> Int × Int) (n : Nat) : ∀ (f : Nat) (l : List Nat) (i : Nat), n <= l.length -> (downL ky n f l i).1.Perm l
 | 0, _, _, _ => List.Perm.refl _
 | f + 1, l, i, hn => by
  rw [downL]; split
  ·exact List.Perm.refl _
  ·rename_i hx
   have := kid_lt (ky := ky) (l := l) (show 2 * i + 1 < n by by_cases h : n <= 2 * i + 1; exact absurd (.inl h) hx; omega)
   exact (downL_perm ky n f _ _ (by rw [swapL_len]; exact hn)).trans (swapL_perm (by omega) (by omega))
theorem swapL_far {l : List Nat} {i j k : Nat} (h1 : i ≠ k) (h2 : j ≠ k) : (swapL l i j)[k]? = l[k]? := by
 unfold swapL; rw [List.getElem?_set_ne h2, List.getElem?_set_ne h1]
theorem downL_far (ky : Nat -> Int × Int) (n : Nat) : ∀ (f : Nat) (l : List Nat) (i k : Nat), n <= k -> (downL ky n f l i).1[k]? = l[k]?
 | 0, _, _, _, _ => rfl
 | f + 1, l, i, k, hk => by
  rw [downL]; split
  ·rfl
  ·rename_i hx
   have := kid_lt (ky := ky) (l := l) (show 2 * i + 1 < n by by_cases h : n <= 2 * i + 1; exact absurd (.inl h) hx; omega)
   rw [downL_far ky n f _ _ k hk, swapL_far (by omega) (by omega)]
theorem fr_row {S : Nat -> Prop} {w w1 w2 : World} {g : Nat} (h : Fr S w w1) (h2 : Fr (fun b => b = g) w1 w2) (hg : S g ∨ w.heap.size <= g) : Fr S w w2 :=
 ⟨h2.os.trans h.os, h2.tape.trans h.tape, h2.output.trans h.output, Nat.le_trans h.size h2.size, fun k hk hn => by
  rw [h2.block k (Nat.lt_of_lt_of_le hk h.size) (fun e => by subst e; rcases hg with hg | hg; exact hn hg; omega)]
  exact h.block k hk hn⟩
section
variable {ky : Nat -> Int × Int} {rb o : Nat} {v : Value} {w w' : World} {l : List Nat}
theorem hpush_any (h : HQ ky rb o v w l) {jb : Nat} (hj : KeyAt ky w jb) (hjr : jb ≠ rb) (hjv : v.ownBlock ≠ some jb) (hl : l.length <= 100) :
  Calls Tryz.prog 114 #[.iface 148 (.pointer (some ⟨rb, o, none⟩)), .iface 103 (.pointer (some ⟨jb, 0, none⟩))] w fun e w' => e = .returned (.tuple #[]) /\ ∃ g cap, HQ ky rb o (.slice (some ⟨g, 0, none⟩) (l.length + 1) cap) w' (upL ky (l.length + 1) (l ++ [jb]) l.length) /\ Fr (fun b => b = rb ∨ v.ownBlock = some b) w w' /\ (v.ownBlock = some g ∨ w.heap.size <= g) /\ Oth rb o w w' := by
 have hMP : (method 427 148 (.pointer (some ⟨rb, o, none⟩)) "Push").run Tryz.prog w = .ok (252, .pointer (some ⟨rb, o, none⟩)) w := method_ptr mRow_push 426 _ _
 have hP := jpush_any h hj hjr hjv hl
 have HU : ∀ (w1 : World) (g cap : Nat), HQ ky rb o (.slice (some ⟨g, 0, none⟩) (l.length + 1) cap) w1 (l ++ [jb]) -> ((method 427 148 (.pointer (some ⟨rb, o, none⟩)) "Len").run Tryz.prog w1 = .ok (77, .slice (some ⟨g, 0, none⟩) (l.length + 1) cap) w1) /\ Hid (Calls Tryz.prog 116 #[.iface 148 (.pointer (some ⟨rb, o, none⟩)), .int .i64 (l.length : Nat)] w1 fun e w' => e = .returned (.tuple #[]) /\ HQ ky rb o (.slice (some ⟨g, 0, none⟩) (l.length + 1) cap) w' (upL ky (l.length + 1) (l ++ [jb]) l.length) /\ Fr (fun b => b = g) w1 w' /\ Oth rb o w1 w') := fun w1 g cap h1 => by
  have hl1 : (l ++ [jb]).length = l.length + 1 := by simp
  have h2 : HQ ky rb o (.slice (some ⟨g, 0, none⟩) (l ++ [jb]).length cap) w1 (l ++ [jb]) := by rw [hl1]; exact h1
  refine ⟨method_val mRow_len 426 _ _ _ h1.cel, ?_⟩
  refine (up_any h2.hs h2.cel (fun e => h2.ne (by rw [e]; rfl)) (j := l.length) (by omega) (by omega)).mono ?_
  rintro e w2 ⟨rfl, t1, t2⟩
  have t3 := h2.ofHs t1 t2 (upL_len _ _ _ _) (fun b hb => (upL_perm ky _ _ _ (by omega)).mem_iff.1 hb)
  rw [upL_len, hl1] at t3
  exact ⟨rfl, t3, t2, Oth.of_block (t2.block rb (lt_of_cell h2.cel) (fun e => h2.ne (by rw [e]; rfl)))⟩
 clear h hj hjr hjv
 generalize hn : l.length = n at *
 go_enter Tryz.func114, Tryz.ntmps114
 go_wp2_with (first
  | (go_at_call 252; refine hP.mono ?_; rintro e w1 ⟨rfl, g, cap, hQ1, hF1, hg1, hO1⟩; obtain ⟨hML, HUp⟩ := HU w1 g cap hQ1)
  | (go_at_call 77; refine (hlen_any _ _ _ _).mono ?_; rintro e w2 ⟨rfl, h9⟩; cases h9)
  | (go_at_call 116; refine HUp.out.mono ?_; rintro e w3 ⟨rfl, hQ3, hF3, hO3⟩))
 go_end0
 exact ⟨rfl, g, cap, hQ3, fr_row hF1 hF3 (by rcases hg1 with h | h; exact .inl (.inr h); exact .inr h), hg1, hO1.trans hO3⟩
def popL (ky : Nat -> Int × Int) (l : List Nat) : List Nat := (downL ky (l.length - 1) (l.length - 1 + 1) (swapL l 0 (l.length - 1)) 0).1.take (l.length - 1)
def fixL (ky : Nat -> Int × Int) (l : List Nat) : List Nat := (downL ky l.length (l.length + 1) l 0).1
theorem hfix_any {g cap : Nat} (h : HQ ky rb o (.slice (some ⟨g, 0, none⟩) l.length cap) w l) (hpos : 0 < l.length) (hl : l.length <= 100) :
  Calls Tryz.prog 80 #[.iface 148 (.pointer (some ⟨rb, o, none⟩)), .int .i64 0] w fun e w' => e = .returned (.tuple #[]) /\ HQ ky rb o (.slice (some ⟨g, 0, none⟩) l.length cap) w' (fixL ky l) /\ Fr (fun b => b = g) w w' := by
 have hM0 : (method 427 148 (.pointer (some ⟨rb, o, none⟩)) "Len").run Tryz.prog w = .ok (77, .slice (some ⟨g, 0, none⟩) l.length cap) w := method_val mRow_len 426 _ _ _ h.cel
 have hrg : rb ≠ g := fun e => h.ne (by rw [e]; rfl)
 have hD := down_any h.hs h.cel hrg (i0 := 0) (n := l.length) (Nat.le_refl _) (by omega) (by omega)
 rw [Nat.sub_zero] at hD
 have hfl : (fixL ky l).length = l.length := downL_len _ _ _ _ _
 have HQ2 : ∀ w', HS ky g cap w' (fixL ky l) -> Fr (fun b => b = g) w w' -> HQ ky rb o (.slice (some ⟨g, 0, none⟩) l.length cap) w' (fixL ky l) := fun w' h1 h2 => by
  have := h.ofHs h1 h2 hfl (fun b hb => (downL_perm ky _ _ _ _ (Nat.le_refl _)).mem_iff.1 hb)
  rwa [hfl] at this
 have HUp : ∀ w', HS ky g cap w' (fixL ky l) -> Fr (fun b => b = g) w w' -> Calls Tryz.prog 116 #[.iface 148 (.pointer (some ⟨rb, o, none⟩)), .int .i64 0] w' fun e w2 => e = .returned (.tuple #[]) /\ HS ky g cap w2 (fixL ky l) /\ Fr (fun b => b = g) w' w2 := fun w' h1 h2 => by
  have h3 := HQ2 w' h1 h2
  have := up_any h1 (by rw [hfl]; exact h3.cel) hrg (j := 0) (by omega) (by omega)
  have e : upL ky (0 + 1) (fixL ky l) 0 = fixL ky l := by rw [upL, if_pos (.inl rfl)]
  rw [e] at this
  exact this
 have hfd : (downL ky l.length (l.length + 1) l 0).1 = fixL ky l := rfl
 rw [hfd] at hD
 generalize decide (0 < (downL ky l.length (l.length + 1) l 0).2) = B at hD
 have HL : Hid _ := HQ2
 clear h hfl hfd HQ2
 generalize fixL ky l = F at *
 generalize l.length = n at *
 cases B with
 | true =>
  go_enter Tryz.func80, Tryz.ntmps80
  go_wp2_with (first
   | (go_at_call 77; refine (hlen_any _ _ _ _).mono ?_; rintro e w2 ⟨rfl, h9⟩; cases h9)
   | (go_at_call 115; refine hD.mono ?_; rintro e w3 ⟨rfl, h1, h2⟩))
  go_end0
  exact ⟨rfl, HL.out _ h1 h2, h2⟩
 | false =>
  go_enter Tryz.func80, Tryz.ntmps80
  go_wp2_with (first
   | (go_at_call 77; refine (hlen_any _ _ _ _).mono ?_; rintro e w2 ⟨rfl, h9⟩; cases h9)
   | (go_at_call 115; refine hD.mono ?_; rintro e w3 ⟨rfl, h1, h2⟩; have hU := HUp _ h1 h2)
   | (go_at_call 116; refine hU.mono ?_; rintro e w4 ⟨rfl, h3, h4⟩))
  go_end0
  exact ⟨rfl, HL.out _ h3 (h2.trans h4), h2.trans h4⟩
theorem hpop_any {g cap : Nat} (h : HQ ky rb o (.slice (some ⟨g, 0, none⟩) l.length cap) w l) {n : Nat} (hn : l.length = n + 1) (hl : n <= 100) :
  Calls Tryz.prog 79 #[.iface 148 (.pointer (some ⟨rb, o, none⟩))] w fun e w' => (∃ x, e = .returned x) /\ HQ ky rb o (.slice (some ⟨g, 0, none⟩) n cap) w' (popL ky l) /\ Fr (fun b => b = rb ∨ b = g) w w' /\ Oth rb o w w' := by
 have hrg : rb ≠ g := fun e => h.ne (by rw [e]; rfl)
 rw [hn] at h
 have h0 : HQ ky rb o (.slice (some ⟨g, 0, none⟩) l.length cap) w l := by rw [hn]; exact h
 have hM0 : (method 427 148 (.pointer (some ⟨rb, o, none⟩)) "Len").run Tryz.prog w = .ok (77, .slice (some ⟨g, 0, none⟩) (n + 1) cap) w := method_val mRow_len 426 _ _ _ h.cel
 have hM1 : (method 427 148 (.pointer (some ⟨rb, o, none⟩)) "Swap").run Tryz.prog w = .ok (249, .slice (some ⟨g, 0, none⟩) (n + 1) cap) w := method_val mRow_swap 426 _ _ _ h.cel
 have hM2 : ∀ w, (method 427 148 (.pointer (some ⟨rb, o, none⟩)) "Pop").run Tryz.prog w = .ok (251, .pointer (some ⟨rb, o, none⟩)) w := fun w => method_ptr mRow_pop 426 _ _
 have hS := h0.hs.swaps (i := 0) (j := n) (by omega) (by omega)
 rw [hn] at hS
 have hsl : (swapL l 0 n).length = n + 1 := by rw [swapL_len]; exact hn
 obtain ⟨D, hD⟩ : ∃ D, downL ky n (n + 1) (swapL l 0 n) 0 = D := ⟨_, rfl⟩
 have hDl : D.1.length = n + 1 := by rw [<- hD, downL_len]; exact hsl
 have hpl : popL ky l = D.1.take n := by unfold popL; rw [hn, Nat.add_sub_cancel, hD]
 have HDn : ∀ w1, HS ky g cap w1 (swapL l 0 n) -> Fr (fun b => b = g) w w1 -> Calls Tryz.prog 115 #[.iface 148 (.pointer (some ⟨rb, o, none⟩)), .int .i64 0, .int .i64 (n : Nat)] w1 fun e w' => (∃ b, e = .returned (.bool b)) /\ Hid (HQ ky rb o (.slice (some ⟨g, 0, none⟩) (n + 1) cap) w' D.1) /\ Fr (fun b => b = g) w1 w' := fun w1 h1 h2 => by
  have h3 := h0.ofHs h1 h2 (by rw [swapL_len]) (fun b hb => mem_swap (by omega) (by omega) hb)
  have := down_any h1 h3.cel hrg (i0 := 0) (n := n) (by omega) (by omega) (by omega)
  rw [Nat.sub_zero, hD] at this
  refine this.mono ?_
  rintro e w2 ⟨rfl, t1, t2⟩
  have h4 := h3.ofHs t1 t2 (by rw [hDl, hsl]) (fun b hb => by rw [<- hD] at hb; exact (downL_perm ky _ _ _ _ (by omega)).mem_iff.1 hb)
  rw [hDl] at h4
  exact ⟨⟨_, rfl⟩, h4, t2⟩
 have HPp : ∀ w2, HQ ky rb o (.slice (some ⟨g, 0, none⟩) (n + 1) cap) w2 D.1 -> Calls Tryz.prog 251 #[.pointer (some ⟨rb, o, none⟩)] w2 fun e w' => (∃ b, e = .returned (.iface 103 (.pointer (some ⟨b, 0, none⟩)))) /\ HQ ky rb o (.slice (some ⟨g, 0, none⟩) n cap) w' (popL ky l) /\ Fr (fun b => b = rb ∨ b = g) w2 w' /\ Oth rb o w2 w' := fun w2 h2 => by
  have hsp : D.1 = D.1.take n ++ [D.1[n]'(by omega)] := by
   have e1 : D.1.take (n + 1) = D.1 := List.take_of_length_le (by omega)
   rw [List.take_add_one, List.getElem?_eq_getElem (by omega)] at e1
   exact e1.symm
  have htl : (D.1.take n).length = n := by rw [List.length_take]; omega
  have := jpop_any (l := D.1.take n) (b := D.1[n]'(by omega)) (g := g) (cap := cap) (ky := ky) (rb := rb) (o := o) (w := w2) (by rw [htl, <- hsp]; exact h2) (by omega)
  refine this.mono ?_
  rintro e w3 ⟨rfl, t1, t2, t3⟩
  rw [htl] at t1
  rw [hpl]
  exact ⟨⟨_, rfl⟩, t1, t2, t3⟩
 have hrl : rb < w.heap.size := lt_of_cell h.cel
 clear h h0 hD hpl
 go_enter Tryz.func79, Tryz.ntmps79
 go_wp2_with (first
  | (go_at_call 77; refine (hlen_any _ _ _ _).mono ?_; rintro e w2 ⟨rfl, h9⟩; cases h9)
  | (go_at_call 249; refine hS.mono ?_; rintro e w3 ⟨rfl, h1, h2⟩; have hDc := HDn _ h1 h2)
  | (go_at_call 115; refine hDc.mono ?_; rintro e w4 ⟨⟨b4, rfl⟩, h3, h4⟩; have hPc := HPp _ h3.out)
  | (go_at_call 251; refine hPc.mono ?_; rintro e w5 ⟨⟨b5, rfl⟩, h5, h6, h7⟩))
 go_ret
 exact ⟨⟨_, rfl⟩, h5, ((h2.trans h4).weak fun k _ e => .inr e).trans h6, (Oth.of_block ((h2.trans h4).block rb hrl hrg)).trans h7⟩
end
end Go.Proofs.YtklobognaldjpaaGreat
