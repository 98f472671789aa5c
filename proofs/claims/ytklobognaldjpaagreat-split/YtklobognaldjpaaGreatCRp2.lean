/- Plain: a turn, out of a run. Plain: a heap of blocks, as a heap of numbers. Plain: a room of jobs that take turns. -/
import Derived.Test.YtklobognaldjpaaGreatCRn2
import Derived.Test.YtklobognaldjpaaGreatCHp5
import Derived.Test.YtklobognaldjpaaGreatCBw1
namespace Go.Proofs.YtklobognaldjpaaGreat
theorem rch_over {W : List Nat} {B : Nat} {m m' : MS} (h : Rch W B m m') (ho : m.over.isSome = true) : m' = m := by
 cases h with
 | refl => rfl
 | step h0 _ _ _ => rw [h0] at ho; cases ho
theorem stepM_mono {W : List Nat} {B : Nat} {m m1 : MS} (hs : stepM W B m = some m1) : m.used <= m1.used /\ m.out <+: m1.out := by
 unfold stepM at hs
 split at hs
 ·cases hs
 ·cases hs; first | exact ⟨Nat.le_refl _, List.prefix_refl _⟩ | exact ⟨Nat.le_succ _, List.prefix_refl _⟩ | exact ⟨Nat.le_refl _, List.prefix_append _ _⟩
 ·cases hs
  split
  ·first | exact ⟨Nat.le_refl _, List.prefix_refl _⟩ | exact ⟨Nat.le_succ _, List.prefix_refl _⟩ | exact ⟨Nat.le_refl _, List.prefix_append _ _⟩
  ·first | exact ⟨Nat.le_refl _, List.prefix_refl _⟩ | exact ⟨Nat.le_succ _, List.prefix_refl _⟩ | exact ⟨Nat.le_refl _, List.prefix_append _ _⟩
 ·obtain ⟨v, hv, rfl⟩ := Option.map_eq_some_iff.1 hs
  first | exact ⟨Nat.le_refl _, List.prefix_refl _⟩ | exact ⟨Nat.le_succ _, List.prefix_refl _⟩ | exact ⟨Nat.le_refl _, List.prefix_append _ _⟩
 ·obtain ⟨a, ha, hs⟩ := Option.bind_eq_some_iff.1 hs
  obtain ⟨v, hv, rfl⟩ := Option.map_eq_some_iff.1 hs
  first | exact ⟨Nat.le_refl _, List.prefix_refl _⟩ | exact ⟨Nat.le_succ _, List.prefix_refl _⟩ | exact ⟨Nat.le_refl _, List.prefix_append _ _⟩
 ·obtain ⟨a, ha, hs⟩ := Option.bind_eq_some_iff.1 hs
  obtain ⟨x, hx, hs⟩ := Option.bind_eq_some_iff.1 hs
  split at hs
  ·cases hs; first | exact ⟨Nat.le_refl _, List.prefix_refl _⟩ | exact ⟨Nat.le_succ _, List.prefix_refl _⟩ | exact ⟨Nat.le_refl _, List.prefix_append _ _⟩
  ·cases hs
 ·obtain ⟨a, ha, hs⟩ := Option.bind_eq_some_iff.1 hs
  obtain ⟨v, hv, rfl⟩ := Option.map_eq_some_iff.1 hs
  first | exact ⟨Nat.le_refl _, List.prefix_refl _⟩ | exact ⟨Nat.le_succ _, List.prefix_refl _⟩ | exact ⟨Nat.le_refl _, List.prefix_append _ _⟩
 ·obtain ⟨a, ha, hs⟩ := Option.bind_eq_some_iff.1 hs
  obtain ⟨x, hx, hs⟩ := Option.bind_eq_some_iff.1 hs
  split at hs
  ·cases hs; first | exact ⟨Nat.le_refl _, List.prefix_refl _⟩ | exact ⟨Nat.le_succ _, List.prefix_refl _⟩ | exact ⟨Nat.le_refl _, List.prefix_append _ _⟩
  ·cases hs
 ·obtain ⟨a, ha, hs⟩ := Option.bind_eq_some_iff.1 hs
  obtain ⟨n, hn, hs⟩ := Option.bind_eq_some_iff.1 hs
  obtain ⟨x, hx, rfl⟩ := Option.map_eq_some_iff.1 hs
  split
  ·first | exact ⟨Nat.le_refl _, List.prefix_refl _⟩ | exact ⟨Nat.le_succ _, List.prefix_refl _⟩ | exact ⟨Nat.le_refl _, List.prefix_append _ _⟩
  ·first | exact ⟨Nat.le_refl _, List.prefix_refl _⟩ | exact ⟨Nat.le_succ _, List.prefix_refl _⟩ | exact ⟨Nat.le_refl _, List.prefix_append _ _⟩
 ·obtain ⟨x, hx, hs⟩ := Option.bind_eq_some_iff.1 hs
  split at hs
  ·obtain ⟨v, hv, rfl⟩ := Option.map_eq_some_iff.1 hs
   first | exact ⟨Nat.le_refl _, List.prefix_refl _⟩ | exact ⟨Nat.le_succ _, List.prefix_refl _⟩ | exact ⟨Nat.le_refl _, List.prefix_append _ _⟩
  ·cases hs
 ·obtain ⟨v, hv, hs⟩ := Option.bind_eq_some_iff.1 hs
  obtain ⟨x, hx, hs⟩ := Option.bind_eq_some_iff.1 hs
  split at hs
  ·cases hs; first | exact ⟨Nat.le_refl _, List.prefix_refl _⟩ | exact ⟨Nat.le_succ _, List.prefix_refl _⟩ | exact ⟨Nat.le_refl _, List.prefix_append _ _⟩
  ·cases hs
 ·obtain ⟨v, hv, rfl⟩ := Option.map_eq_some_iff.1 hs
  first | exact ⟨Nat.le_refl _, List.prefix_refl _⟩ | exact ⟨Nat.le_succ _, List.prefix_refl _⟩ | exact ⟨Nat.le_refl _, List.prefix_append _ _⟩
 ·obtain ⟨v, hv, rfl⟩ := Option.map_eq_some_iff.1 hs
  first | exact ⟨Nat.le_refl _, List.prefix_refl _⟩ | exact ⟨Nat.le_succ _, List.prefix_refl _⟩ | exact ⟨Nat.le_refl _, List.prefix_append _ _⟩
 ·obtain ⟨v, hv, rfl⟩ := Option.map_eq_some_iff.1 hs
  first | exact ⟨Nat.le_refl _, List.prefix_refl _⟩ | exact ⟨Nat.le_succ _, List.prefix_refl _⟩ | exact ⟨Nat.le_refl _, List.prefix_append _ _⟩
 ·obtain ⟨a, ha, rfl⟩ := Option.map_eq_some_iff.1 hs
  first | exact ⟨Nat.le_refl _, List.prefix_refl _⟩ | exact ⟨Nat.le_succ _, List.prefix_refl _⟩ | exact ⟨Nat.le_refl _, List.prefix_append _ _⟩
 ·obtain ⟨a, ha, hs⟩ := Option.bind_eq_some_iff.1 hs
  obtain ⟨x, hx, rfl⟩ := Option.map_eq_some_iff.1 hs
  split
  ·first | exact ⟨Nat.le_refl _, List.prefix_refl _⟩ | exact ⟨Nat.le_succ _, List.prefix_refl _⟩ | exact ⟨Nat.le_refl _, List.prefix_append _ _⟩
  ·first | exact ⟨Nat.le_refl _, List.prefix_refl _⟩ | exact ⟨Nat.le_succ _, List.prefix_refl _⟩ | exact ⟨Nat.le_refl _, List.prefix_append _ _⟩
 ·obtain ⟨a, ha, hs⟩ := Option.bind_eq_some_iff.1 hs
  obtain ⟨n, hn, hs⟩ := Option.bind_eq_some_iff.1 hs
  split at hs
  ·cases hs; first | exact ⟨Nat.le_refl _, List.prefix_refl _⟩ | exact ⟨Nat.le_succ _, List.prefix_refl _⟩ | exact ⟨Nat.le_refl _, List.prefix_append _ _⟩
  ·rename_i h30
   split at hs
   ·cases hs; first | exact ⟨Nat.le_refl _, List.prefix_refl _⟩ | exact ⟨Nat.le_succ _, List.prefix_refl _⟩ | exact ⟨Nat.le_refl _, List.prefix_append _ _⟩
   ·cases hs
 ·obtain ⟨n, hn, rfl⟩ := Option.map_eq_some_iff.1 hs
  first | exact ⟨Nat.le_refl _, List.prefix_refl _⟩ | exact ⟨Nat.le_succ _, List.prefix_refl _⟩ | exact ⟨Nat.le_refl _, List.prefix_append _ _⟩
 ·obtain ⟨f, hf, hs⟩ := Option.bind_eq_some_iff.1 hs
  split at hs
  ·cases hs; first | exact ⟨Nat.le_refl _, List.prefix_refl _⟩ | exact ⟨Nat.le_succ _, List.prefix_refl _⟩ | exact ⟨Nat.le_refl _, List.prefix_append _ _⟩
  ·cases hs
 ·obtain ⟨a, ha, hs⟩ := Option.bind_eq_some_iff.1 hs
  obtain ⟨v, hv, hs⟩ := Option.bind_eq_some_iff.1 hs
  obtain ⟨f, hf, hs⟩ := Option.bind_eq_some_iff.1 hs
  split at hs
  ·cases hs; first | exact ⟨Nat.le_refl _, List.prefix_refl _⟩ | exact ⟨Nat.le_succ _, List.prefix_refl _⟩ | exact ⟨Nat.le_refl _, List.prefix_append _ _⟩
  ·cases hs
 ·obtain ⟨x, hx, rfl⟩ := Option.map_eq_some_iff.1 hs
  split
  ·first | exact ⟨Nat.le_refl _, List.prefix_refl _⟩ | exact ⟨Nat.le_succ _, List.prefix_refl _⟩ | exact ⟨Nat.le_refl _, List.prefix_append _ _⟩
  ·first | exact ⟨Nat.le_refl _, List.prefix_refl _⟩ | exact ⟨Nat.le_succ _, List.prefix_refl _⟩ | exact ⟨Nat.le_refl _, List.prefix_append _ _⟩
 ·cases hs
  split
  ·first | exact ⟨Nat.le_refl _, List.prefix_refl _⟩ | exact ⟨Nat.le_succ _, List.prefix_refl _⟩ | exact ⟨Nat.le_refl _, List.prefix_append _ _⟩
  ·first | exact ⟨Nat.le_refl _, List.prefix_refl _⟩ | exact ⟨Nat.le_succ _, List.prefix_refl _⟩ | exact ⟨Nat.le_refl _, List.prefix_append _ _⟩
 ·split at hs
  ·obtain ⟨y, hy, hs⟩ := Option.bind_eq_some_iff.1 hs
   obtain ⟨x, hx, rfl⟩ := Option.map_eq_some_iff.1 hs
   split
   ·first | exact ⟨Nat.le_refl _, List.prefix_refl _⟩ | exact ⟨Nat.le_succ _, List.prefix_refl _⟩ | exact ⟨Nat.le_refl _, List.prefix_append _ _⟩
   ·first | exact ⟨Nat.le_refl _, List.prefix_refl _⟩ | exact ⟨Nat.le_succ _, List.prefix_refl _⟩ | exact ⟨Nat.le_refl _, List.prefix_append _ _⟩
  ·cases hs
theorem turn_of {W : List Nat} {B : Nat} (hW : W.length <= 5000) (hB : B <= 3000) {m mE : MS} (hr : Rch W B m mE) (L : Nat) : mE.over.isSome = true -> m.calls.length <= 30 -> m.used <= B ->
  ∃ n m' b, Trn W B L n m m' b /\ Rch W B m' mE /\ m'.calls.length <= 30 /\ m'.used <= B /\ m.used <= m'.used /\ (b = true -> m'.used = L /\ m'.over = none) /\ (b = false -> m' = mE) := by
 induction hr with
 | refl m => exact fun ho hc hu => ⟨0, m, false, .over m ho, .refl m, hc, hu, Nat.le_refl _, fun h => (by cases h), fun _ => rfl⟩
 | @step m m1 m2 h0 hb hs hr ih =>
  intro ho hc hu
  by_cases hw : W[m.pc]? = some 1 /\ m.used ≠ B /\ m.used = L
  ·exact ⟨1, m, true, .wait m h0 hw.1 hw.2.1 hw.2.2, .step h0 hb hs hr, hc, hu, Nat.le_refl _, fun _ => ⟨hw.2.2, h0⟩, fun h => (by cases h)⟩
  ·obtain ⟨i1, i2, i3, i4⟩ := stepM_inv hs h0
   obtain ⟨n, m', b, t1, t2, t3, t4, t5, t6, t7⟩ := ih ho (i2 hc) (i3 hu)
   have hsb : m.stack.length <= 1000000 := by omega
   have hsb1 : m1.stack.length <= 1000000 := by
    cases hr with
    | refl => have := i4 ho; omega
    | step k0 kb ks _ =>
     have := (stepM_inv ks k0).1
     have := i2 hc
     omega
   exact ⟨n + 1, m', b, .step h0 (fun h1 h2 h3 => hw ⟨h1, h2, h3⟩) hsb hsb1 (by omega) hs t1, t2, t3, t4, Nat.le_trans (stepM_mono hs).1 t5, t6, t7⟩
theorem trn_one {W : List Nat} {B L : Nat} {n : Nat} {m m' : MS} {b : Bool} (h : Trn W B L n m m' b) : ∀ {k : Nat} {m2 : MS} {c : Bool}, Trn W B L k m m2 c -> m' = m2 /\ b = c := by
 induction h with
 | over m ho =>
  intro k m2 c h2
  cases h2 with
  | over _ _ => exact ⟨rfl, rfl⟩
  | wait _ h0 _ _ _ => rw [h0] at ho; cases ho
  | step h0 _ _ _ _ _ _ => rw [h0] at ho; cases ho
 | wait m h0 h1 h3 h4 =>
  intro k m2 c h2
  cases h2 with
  | over _ ho => rw [h0] at ho; cases ho
  | wait _ _ _ _ _ => exact ⟨rfl, rfl⟩
  | step _ hx _ _ _ _ _ => exact absurd h4 (hx h1 h3)
 | step h0 hx _ _ _ hs _ ih =>
  intro k m2 c h2
  cases h2 with
  | over _ ho => rw [h0] at ho; cases ho
  | wait _ _ h1 h3 h4 => exact absurd h4 (hx h1 h3)
  | step _ _ _ _ _ hs2 h3 =>
   rw [hs] at hs2
   cases hs2
   exact ih h3
section
variable {ky ky' : Nat -> Int × Int} {f : Nat -> Nat} {l : List Nat}
theorem getD_map {i : Nat} (hi : i < l.length) : (l.map f).getD i 0 = f (l.getD i 0) := by simp [List.getD, hi]
theorem lessAt_map {i j : Nat} (hi : i < l.length) (hj : j < l.length) : lessAt ky (l.map f) i j = lessAt (fun x => ky (f x)) l i j := by
 unfold lessAt; rw [getD_map hi, getD_map hj]
theorem swapL_map {i j : Nat} (hi : i < l.length) (hj : j < l.length) : swapL (l.map f) i j = (swapL l i j).map f := by
 unfold swapL; rw [getD_map hi, getD_map hj, List.map_set, List.map_set]
theorem upL_map (ky : Nat -> Int × Int) (f : Nat -> Nat) : ∀ (e : Nat) (l : List Nat) (j : Nat), j < l.length -> upL ky e (l.map f) j = (upL (fun x => ky (f x)) e l j).map f
 | 0, _, _, _ => rfl
 | e + 1, l, j, hj => by
  rw [upL, upL, lessAt_map hj (by omega)]
  split
  ·rfl
  ·rw [swapL_map (by omega) hj, upL_map ky f e _ _ (by rw [swapL_len]; omega)]
theorem kidL_map {n i : Nat} (hn : n <= l.length) : kidL ky n (l.map f) i = kidL (fun x => ky (f x)) n l i := by
 unfold kidL
 by_cases h : 2 * i + 2 < n
 ·rw [lessAt_map (by omega) (by omega)]
 ·rw [if_neg (fun h2 => h h2.1), if_neg (fun h2 => h h2.1)]
theorem downL_map (ky : Nat -> Int × Int) (f : Nat -> Nat) (n : Nat) : ∀ (e : Nat) (l : List Nat) (i : Nat), n <= l.length -> downL ky n e (l.map f) i = ((downL (fun x => ky (f x)) n e l i).1.map f, (downL (fun x => ky (f x)) n e l i).2)
 | 0, _, _, _ => rfl
 | e + 1, l, i, hn => by
  rw [downL, downL]
  by_cases h : n <= 2 * i + 1
  ·rw [if_pos (.inl h), if_pos (.inl h)]
  ·have hk := kid_lt (ky := fun x => ky (f x)) (l := l) (show 2 * i + 1 < n by omega)
   rw [kidL_map hn, lessAt_map (by omega) (by omega)]
   split
   ·rfl
   ·rw [swapL_map (by omega) (by omega), downL_map ky f n e _ _ (by rw [swapL_len]; exact hn)]
theorem popL_map (hl : l ≠ []) : popL ky (l.map f) = (popL (fun x => ky (f x)) l).map f := by
 have hp : 0 < l.length := List.length_pos_iff.2 hl
 unfold popL
 rw [List.length_map, swapL_map hp (by omega), downL_map ky f _ _ _ _ (by rw [swapL_len]; omega), List.map_take]
theorem fixL_map : fixL ky (l.map f) = (fixL (fun x => ky (f x)) l).map f := by
 unfold fixL
 rw [List.length_map, downL_map ky f _ _ _ _ (Nat.le_refl _)]
theorem lessAt_congr (h : ∀ b ∈ l, ky b = ky' b) {i j : Nat} (hi : i < l.length) (hj : j < l.length) : lessAt ky l i j = lessAt ky' l i j := by
 unfold lessAt; rw [h _ (getD_mem hi), h _ (getD_mem hj)]
theorem upL_congr : ∀ (e : Nat) (l : List Nat) (j : Nat), (∀ b ∈ l, ky b = ky' b) -> j < l.length -> upL ky e l j = upL ky' e l j
 | 0, _, _, _, _ => rfl
 | e + 1, l, j, h, hj => by
  rw [upL, upL, lessAt_congr h hj (by omega)]
  split
  ·rfl
  ·exact upL_congr e _ _ (fun b hb => h b (mem_swap (by omega) hj hb)) (by rw [swapL_len]; omega)
theorem downL_congr (n : Nat) : ∀ (e : Nat) (l : List Nat) (i : Nat), (∀ b ∈ l, ky b = ky' b) -> n <= l.length -> downL ky n e l i = downL ky' n e l i
 | 0, _, _, _, _ => rfl
 | e + 1, l, i, h, hn => by
  rw [downL, downL]
  by_cases h1 : n <= 2 * i + 1
  ·rw [if_pos (.inl h1), if_pos (.inl h1)]
  ·have hk := kid_lt (ky := ky') (l := l) (show 2 * i + 1 < n by omega)
   have e1 : kidL ky n l i = kidL ky' n l i := by
    unfold kidL
    by_cases h2 : 2 * i + 2 < n
    ·rw [lessAt_congr h (by omega) (by omega)]
    ·rw [if_neg (fun h3 => h2 h3.1), if_neg (fun h3 => h2 h3.1)]
   rw [e1, lessAt_congr h (by omega) (by omega)]
   split
   ·rfl
   ·exact downL_congr n e _ _ (fun b hb => h b (mem_swap (by omega) (by omega) hb)) (by rw [swapL_len]; exact hn)
theorem popL_congr (hl : l ≠ []) (h : ∀ b ∈ l, ky b = ky' b) : popL ky l = popL ky' l := by
 have hp : 0 < l.length := List.length_pos_iff.2 hl
 unfold popL
 rw [downL_congr _ _ _ _ (fun b hb => h b (mem_swap hp (by omega) hb)) (by rw [swapL_len]; omega)]
theorem fixL_congr (h : ∀ b ∈ l, ky b = ky' b) : fixL ky l = fixL ky' l := by
 unfold fixL
 rw [downL_congr _ _ _ _ h (Nat.le_refl _)]
theorem fixL_perm (ky : Nat -> Int × Int) (l : List Nat) : (fixL ky l).Perm l := downL_perm ky _ _ _ _ (Nat.le_refl _)
theorem popL_perm (ky : Nat -> Int × Int) (b : Nat) (t : List Nat) : (popL ky (b :: t)).Perm t := by
 have hn : (b :: t).length - 1 = t.length := by simp
 have hsl : (swapL (b :: t) 0 t.length).length = t.length + 1 := by rw [swapL_len]; rfl
 have hD := downL_perm ky t.length (t.length + 1) (swapL (b :: t) 0 t.length) 0 (by omega)
 have hfar := downL_far ky t.length (t.length + 1) (swapL (b :: t) 0 t.length) 0 t.length (Nat.le_refl _)
 have hlen := downL_len ky t.length (t.length + 1) (swapL (b :: t) 0 t.length) 0
 unfold popL
 rw [hn]
 generalize (downL ky t.length (t.length + 1) (swapL (b :: t) 0 t.length) 0).1 = D at *
 have hlast : (swapL (b :: t) 0 t.length)[t.length]? = some b := by
  unfold swapL
  rw [List.getElem?_set_self (by simp)]
  rfl
 rw [hlast] at hfar
 have hsp : D = D.take t.length ++ [b] := by
  have e1 : D.take (t.length + 1) = D := List.take_of_length_le (by omega)
  rw [List.take_add_one, hfar] at e1
  exact e1.symm
 have h1 : (D.take t.length ++ [b]).Perm (b :: t) := by
  rw [<- hsp]; exact hD.trans (swapL_perm (by simp) (by simp))
 have h2 : (b :: D.take t.length).Perm (b :: t) := (List.perm_append_singleton b (D.take t.length)).symm.trans h1
 exact (List.perm_cons b).1 h2
end
structure PJ where
 W : List Nat
 fuel : Nat
 m : MS
 num : Nat
 done : Bool
structure PRm where
 js : List PJ
 hp : List Nat
def kyP (js : List PJ) (i : Nat) : Int × Int := match js[i]? with
 | some P => (((P.m.used : Nat) : Int), ((P.num : Nat) : Int))
 | none => (0, 0)
def PJ.after (P : PJ) (m' : MS) : PJ := { P with m := m', done := m'.over.isSome }
def nextP (js : List PJ) (over : Bool) (hp : List Nat) : List Nat := if over then popL (kyP js) hp else fixL (kyP js) hp
inductive Rd (sl : Nat) : PRm -> PRm -> Option Nat -> Prop
 | none (js : List PJ) : Rd sl ⟨js, []⟩ ⟨js, []⟩ none
 | turn {js : List PJ} {i n : Nat} {t : List Nat} {P : PJ} {m' : MS} {b : Bool} : js[i]? = some P -> P.done = false -> Trn P.W P.fuel (P.m.used + sl) n P.m m' b ->
    Rd sl ⟨js, i :: t⟩ ⟨js.set i (P.after m'), nextP (js.set i (P.after m')) m'.over.isSome (i :: t)⟩ (if m'.over.isSome then some P.num else none)
inductive Rds (sl : Nat) : Nat -> PRm -> PRm -> List Nat -> Prop
 | zero (a : PRm) : Rds sl 0 a a []
 | succ {k : Nat} {a b c : PRm} {l : List Nat} {o : Option Nat} : Rds sl k a b l -> Rd sl b c o -> Rds sl (k + 1) a c (l ++ o.toList)
structure GoodJ (P : PJ) (mE : MS) : Prop where
 rch : Rch P.W P.fuel P.m mE
 fin : mE.over.isSome = true
 ca : P.m.calls.length <= 30
 us : P.m.used <= P.fuel
 fu : P.fuel <= 3000
 wl : P.W.length <= 5000
 wk : LeK P.W
structure PG (E : Nat -> MS) (a : PRm) : Prop where
 hin : ∀ i ∈ a.hp, ∃ P, a.js[i]? = some P /\ P.done = false
 nd : a.hp.Nodup
 all : ∀ i P, a.js[i]? = some P -> P.done = false -> i ∈ a.hp
 good : ∀ i P, a.js[i]? = some P -> GoodJ P (E i)
 l5 : a.js.length <= 5
 h5 : a.hp.length <= 5
theorem set_at {js : List PJ} {i : Nat} (hi : i < js.length) (P : PJ) (a : Nat) : (js.set i P)[a]? = if i = a then some P else js[a]? := by
 rw [List.getElem?_set]
 by_cases e : i = a
 ·subst e; rw [if_pos rfl, if_pos rfl, if_pos hi]
 ·rw [if_neg e, if_neg e]
theorem nextP_perm (js : List PJ) (i : Nat) (t : List Nat) : (nextP js true (i :: t)).Perm t /\ (nextP js false (i :: t)).Perm (i :: t) :=
 ⟨popL_perm _ _ _, fixL_perm _ _⟩
theorem good_turn {P : PJ} {mE : MS} (h : GoodJ P mE) (sl : Nat) : ∃ n m' b, Trn P.W P.fuel (P.m.used + sl) n P.m m' b /\ GoodJ (P.after m') mE /\ P.m.used <= m'.used /\ (m'.over.isSome = true -> m' = mE) /\ (m'.over.isSome = false -> m'.used = P.m.used + sl) := by
 obtain ⟨n, m', b, t1, t2, t3, t4, t5, t6, t7⟩ := turn_of h.wl h.fu h.rch (P.m.used + sl) h.fin h.ca h.us
 refine ⟨n, m', b, t1, ⟨t2, h.fin, t3, t4, h.fu, h.wl, h.wk⟩, t5, fun ho => (rch_over t2 ho).symm, fun ho => ?_⟩
 cases b with
 | true => exact (t6 rfl).1
 | false =>
  rw [t7 rfl] at ho
  rw [h.fin] at ho
  cases ho
theorem rd_good {E : Nat -> MS} {js : List PJ} {i : Nat} {t : List Nat} {P : PJ} (h : PG E ⟨js, i :: t⟩) (hi : js[i]? = some P) {m' : MS} (hg : GoodJ (P.after m') (E i)) : PG E ⟨js.set i (P.after m'), nextP (js.set i (P.after m')) m'.over.isSome (i :: t)⟩ := by
 have hil : i < js.length := (List.getElem?_eq_some_iff.1 hi).1
 have hset := set_at hil (P.after m')
 obtain ⟨p1, p2⟩ := nextP_perm (js.set i (P.after m')) i t
 have hnd : i ∉ t /\ t.Nodup := List.nodup_cons.1 h.nd
 have hgood : ∀ j Q, (js.set i (P.after m'))[j]? = some Q -> GoodJ Q (E j) := fun j Q hj => by
  rw [hset] at hj
  by_cases e : i = j
  ·subst e; rw [if_pos rfl] at hj; cases hj; exact hg
  ·rw [if_neg e] at hj; exact h.good j Q hj
 cases ho : m'.over.isSome with
 | true =>
  have hdn : (P.after m').done = true := ho
  refine ⟨fun j hj => ?_, p1.nodup_iff.2 hnd.2, fun j Q hj hq => ?_, hgood, by simpa using h.l5, ?_⟩
  ·have hj2 := p1.mem_iff.1 hj
   have e : i ≠ j := fun e => hnd.1 (e ▸ hj2)
   obtain ⟨Q, q1, q2⟩ := h.hin j (List.mem_cons_of_mem _ hj2)
   exact ⟨Q, by show (js.set i (P.after m'))[j]? = _; rw [hset, if_neg e]; exact q1, q2⟩
  ·have hj' : (js.set i (P.after m'))[j]? = some Q := hj
   rw [hset] at hj'
   by_cases e : i = j
   ·subst e; rw [if_pos rfl] at hj'; cases hj'; rw [hdn] at hq; cases hq
   ·rw [if_neg e] at hj'
    rcases List.mem_cons.1 (h.all j Q hj' hq) with e2 | e2
    ·exact absurd e2.symm e
    ·exact p1.mem_iff.2 e2
  ·have := p1.length_eq
   have h5 := h.h5
   show (nextP _ true (i :: t)).length <= 5
   rw [this]
   simp at h5
   omega
 | false =>
  have hdn : (P.after m').done = false := ho
  refine ⟨fun j hj => ?_, p2.nodup_iff.2 h.nd, fun j Q hj hq => ?_, hgood, by simpa using h.l5, ?_⟩
  ·have hj2 := p2.mem_iff.1 hj
   by_cases e : i = j
   ·subst e; exact ⟨P.after m', by show (js.set i (P.after m'))[i]? = _; rw [hset, if_pos rfl], hdn⟩
   ·obtain ⟨Q, q1, q2⟩ := h.hin j hj2
    exact ⟨Q, by show (js.set i (P.after m'))[j]? = _; rw [hset, if_neg e]; exact q1, q2⟩
  ·have hj' : (js.set i (P.after m'))[j]? = some Q := hj
   rw [hset] at hj'
   by_cases e : i = j
   ·subst e; exact p2.mem_iff.2 (by simp)
   ·rw [if_neg e] at hj'; exact p2.mem_iff.2 (h.all j Q hj' hq)
  ·have := p2.length_eq
   have h5 := h.h5
   show (nextP _ false (i :: t)).length <= 5
   rw [this]
   exact h5
theorem rd_one {sl : Nat} {a b : PRm} {o : Option Nat} (h : Rd sl a b o) : ∀ {c : PRm} {p : Option Nat}, Rd sl a c p -> b = c /\ o = p := by
 cases h with
 | none js =>
  intro c p h2
  cases h2
  exact ⟨rfl, rfl⟩
 | turn h1 h2 h3 =>
  intro c p h4
  cases h4 with
  | turn k1 k2 k3 =>
   rw [h1] at k1
   cases k1
   obtain ⟨rfl, _⟩ := trn_one h3 k3
   exact ⟨rfl, rfl⟩
theorem rds_one {sl : Nat} : ∀ {k : Nat} {a b c : PRm} {l m : List Nat}, Rds sl k a b l -> Rds sl k a c m -> b = c /\ l = m
 | 0, _, _, _, _, _, .zero _, .zero _ => ⟨rfl, rfl⟩
 | _ + 1, _, _, _, _, _, .succ h1 h2, .succ k1 k2 => by
  obtain ⟨rfl, rfl⟩ := rds_one h1 k1
  obtain ⟨rfl, rfl⟩ := rd_one h2 k2
  exact ⟨rfl, rfl⟩
theorem rds_add {sl : Nat} {n : Nat} {a b : PRm} {l : List Nat} (h : Rds sl n a b l) : ∀ {k : Nat} {c : PRm} {m : List Nat}, Rds sl k b c m -> Rds sl (n + k) a c (l ++ m)
 | 0, _, _, .zero _ => by rw [List.append_nil]; exact h
 | _ + 1, _, _, .succ k1 k2 => by rw [<- List.append_assoc]; exact .succ (rds_add h k1) k2
end Go.Proofs.YtklobognaldjpaaGreat
