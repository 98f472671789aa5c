/- The maker of code: expressions with 'and', 'or'; operators. The maker of code: 'or'; arrays; two operands. The maker of code: an index becomes a place. -/
import Derived.Test.YtklobognaldjpaaGreatCCm3
import Derived.Test.YtklobognaldjpaaGreatCLk3
import Derived.Deep.RegionHeld3
set_option maxHeartbeats 2000000
set_option maxRecDepth 1000000
namespace Go.Proofs.YtklobognaldjpaaGreat
open Go.RowKit
theorem unary_any (s : ByteArray) (w : World) : Calls Tryz.prog 183 #[.string s] w fun e w' => e = .returned (.int .i64 (unNum s : Nat)) /\ w' = w := by
 unfold unNum isW
 go_enter Tryz.func183, Tryz.ntmps183
 go_wp2
 all_goals go_ret
 all_goals refine ⟨?_, rfl⟩
 all_goals go_light
 all_goals simp_all
theorem operation_any (s : ByteArray) (w : World) : Calls Tryz.prog 201 #[.string s] w fun e w' => e = .returned (.int .i64 (opNum s : Nat)) /\ w' = w := by
 unfold opNum isW
 go_enter Tryz.func201, Tryz.ntmps201
 go_wp2
 all_goals go_ret
 all_goals refine ⟨?_, rfl⟩
 all_goals go_light
 all_goals simp_all
section
variable {base mb gm ng nl : Nat} {lm : Option Nat} {w w' : World} {M : Mkr} {v v' : Value}
theorem lay0 (h : MK base mb gm ng nl lm w M v) (ks : List Int) (t : TypeId) (hbig : M.words.length + ks.length <= 1000000) :
  Calls Tryz.prog 101 #[.pointer (some ⟨mb, 0, none⟩), .slice (some ⟨w.heap.size, 0, none⟩) ks.length ks.length] (w.alloc (.cells (ks.map (Value.int .i64)).toArray t))
   fun e w' => e = .returned (.int .i64 M.words.length) /\ ∃ v', MK base mb gm ng nl lm w' (M.more ks) v' /\ Mv mb v v' w w' :=
 layB h ((Below.refl _ _).alloc (Nat.le_refl _) _) (newCells w ks t) hbig
def EX (base mb gm ng nl : Nat) (lm : Option Nat) (E : CE) (e : Ex) : Prop :=
 ∀ (Q : Nat -> Prop) (w : World) (ve : Value) (M : Mkr) (v : Value), MK base mb gm ng nl lm w M v -> M.E = E -> REx Q w ve e -> (∀ b, Q b -> b < base /\ b ≠ mb) -> OkEx e -> M.words.length + (cEx E M.words.length e).length <= 1000000 ->
  Calls Tryz.prog 155 #[.pointer (some ⟨mb, 0, none⟩), ve] w (MPost base mb gm ng nl lm (M.more ((cEx E M.words.length e).map Int.ofNat)) v w)
theorem Mv.keepQ {Q : Nat -> Prop} (h : MK base mb gm ng nl lm w M v) (hk : Mv mb v v' w w') (hQ : ∀ b, Q b -> b < base /\ b ≠ mb) : KeepQ Q w w' :=
 hk.1.keepQ fun b hb hs => by
  obtain ⟨h1, h2⟩ := hQ b hb
  rcases hs with hs | hs
  ·exact h2 hs
  ·have := (h.row b hs).1; omega
theorem more_E (M : Mkr) (ks : List Int) : (M.more ks).E = M.E := rfl
theorem more_len (M : Mkr) (ks : List Int) : (M.more ks).words.length = M.words.length + ks.length := by unfold Mkr.more; simp
theorem more_more (M : Mkr) (a b : List Int) : (M.more a).more b = M.more (a ++ b) := by unfold Mkr.more; simp
def Mkr.told (M : Mkr) (j k : Nat) : Mkr := { M with words := M.words.set j k }
theorem told_len (M : Mkr) (j k : Nat) : (M.told j k).words.length = M.words.length := by unfold Mkr.told; simp
theorem told_more (M : Mkr) (x : Int) (b : List Int) (k : Nat) : (M.more ([x, -1] ++ b)).told (M.words.length + 1) k = M.more ([x, (k : Int)] ++ b) := by
 unfold Mkr.told Mkr.more
 simp only
 congr 1
 rw [List.set_append_right _ _ (by omega), Nat.add_sub_cancel_left]
 rfl
def andC (E : CE) (p : Nat) (r : Ex) : List Nat :=
 [23, p + 2 + (cEx E (p + 2) r).length + 3] ++ cEx E (p + 2) r ++ [21] ++ [22, p + 2 + (cEx E (p + 2) r).length + 5] ++ [2, 0]
def orC (E : CE) (p : Nat) (r : Ex) : List Nat :=
 [23, p + 6] ++ [2, 1] ++ [22, p + 6 + (cEx E (p + 6) r).length + 1] ++ cEx E (p + 6) r ++ [21]
theorem and_any {E : CE} {r : Ex} (ih : EX base mb gm ng nl lm E r) {Q : Nat -> Prop} {vr : Value} (h : MK base mb gm ng nl lm w M v) (hE : M.E = E) (hr : REx Q w vr r) (hQ : ∀ b, Q b -> b < base /\ b ≠ mb) (hO : OkEx r) (hbig : M.words.length + (andC E M.words.length r).length <= 1000000) :
  Calls Tryz.prog 199 #[.pointer (some ⟨mb, 0, none⟩), vr] w (MPost base mb gm ng nl lm (M.more ((andC E M.words.length r).map Int.ofNat)) v w) := by
 have hlen : (andC E M.words.length r).length = (cEx E (M.words.length + 2) r).length + 7 := by unfold andC; simp
 rw [hlen] at hbig
 have HF : Hid (∀ R : List Int, R = (cEx E (M.words.length + 2) r).map Int.ofNat -> ((((((M.more [23, -1]).more R).more [21]).more [22, -1]).told (M.words.length + 1) ((((M.more [23, -1]).more R).more [21]).more [22, -1]).words.length).more [2, 0]).told ((((M.more [23, -1]).more R).more [21]).words.length + 1) (((((((M.more [23, -1]).more R).more [21]).more [22, -1]).told (M.words.length + 1) ((((M.more [23, -1]).more R).more [21]).more [22, -1]).words.length).more [2, 0]).words.length) = M.more ((andC E M.words.length r).map Int.ofNat)) := by
  intro R hR
  have e1 : (((M.more [23, -1]).more R).more [21]).more [22, -1] = M.more ([23, -1] ++ (R ++ [21] ++ [22, -1])) := by simp [more_more]
  rw [e1, told_more, more_more]
  have e2 : ((M.more [23, -1]).more R).more [21] = M.more ([23, -1] ++ (R ++ [21])) := by simp [more_more]
  rw [e2]
  generalize hk : (M.more ([23, -1] ++ (R ++ [21] ++ [22, -1]))).words.length = k
  have e3 : M.more ([23, (k : Int)] ++ (R ++ [21] ++ [22, -1]) ++ [2, 0]) = (M.more ([23, (k : Int)] ++ (R ++ [21]))).more ([22, -1] ++ [2, 0]) := by simp [more_more]
  have e4 : (M.more ([23, -1] ++ (R ++ [21]))).words.length = (M.more ([23, (k : Int)] ++ (R ++ [21]))).words.length := by simp [more_len]
  rw [e3, e4, told_more, more_more]
  subst hR
  congr 1
  unfold andC
  simp only [more_len, List.length_append, List.length_cons, List.length_nil, List.length_map, List.map_append, List.map_cons, List.map_nil, List.append_assoc, List.cons_append, List.nil_append] at hk ⊢
  congr 2
  ·show (k : Int) = _; rw [<- hk]; simp; omega
  ·congr 2
   simp
   omega
 have hl1 : (M.more [23, -1]).words.length = M.words.length + 2 := by rw [more_len]; rfl
 have hX : ∀ w1 v1, MK base mb gm ng nl lm w1 (M.more [23, -1]) v1 -> Mv mb v v1 w w1 -> Calls Tryz.prog 155 #[.pointer (some ⟨mb, 0, none⟩), vr] w1 (MPost base mb gm ng nl lm ((M.more [23, -1]).more ((cEx E (M.words.length + 2) r).map Int.ofNat)) v1 w1) := fun w1 v1 h1 hk => by
  have := ih Q w1 vr (M.more [23, -1]) v1 h1 hE (hr.keep (hk.keepQ h hQ)) hQ hO (by rw [hl1]; omega)
  rw [hl1] at this
  exact this
 have HR : Hid (∃ R : List Int, R = (cEx E (M.words.length + 2) r).map Int.ofNat) := ⟨_, rfl⟩
 have hRl : ((cEx E (M.words.length + 2) r).map Int.ofNat).length <= (cEx E (M.words.length + 2) r).length := by simp
 have HF2 := HF.out _ rfl
 clear HF HR
 generalize (cEx E (M.words.length + 2) r).map Int.ofNat = R at *
 generalize (cEx E (M.words.length + 2) r).length = rl at *
 have HF3 : Hid _ := HF2
 clear HF2
 have b1 : M.words.length + 2 <= 1000000 := by omega
 have b2 : ((M.more [23, -1]).more R).words.length + 1 <= 1000000 := by rw [more_len, more_len]; simp; omega
 have b3 : (((M.more [23, -1]).more R).more [21]).words.length + 2 <= 1000000 := by rw [more_len, more_len, more_len]; simp; omega
 have b4 : ((((M.more [23, -1]).more R).more [21]).more [22, -1]).words.length <= 1000000 := by rw [more_len, more_len, more_len, more_len]; simp; omega
 have b5 : M.words.length + 1 < ((((M.more [23, -1]).more R).more [21]).more [22, -1]).words.length := by rw [more_len, more_len, more_len, more_len]; simp; omega
 have b6 : (((((M.more [23, -1]).more R).more [21]).more [22, -1]).told (M.words.length + 1) ((((M.more [23, -1]).more R).more [21]).more [22, -1]).words.length).words.length + 2 <= 1000000 := by rw [told_len, more_len, more_len, more_len, more_len]; simp; omega
 have b7 : ((((((M.more [23, -1]).more R).more [21]).more [22, -1]).told (M.words.length + 1) ((((M.more [23, -1]).more R).more [21]).more [22, -1]).words.length).more [2, 0]).words.length <= 1000000 := by rw [more_len]; exact b6
 have b8 : (((M.more [23, -1]).more R).more [21]).words.length + 1 < ((((((M.more [23, -1]).more R).more [21]).more [22, -1]).told (M.words.length + 1) ((((M.more [23, -1]).more R).more [21]).more [22, -1]).words.length).more [2, 0]).words.length := by simp only [more_len, told_len, List.length_cons, List.length_nil]; omega
 have L1 := lay0 h [23, -1] 3 (by simpa using b1)
 have L2 := fun W V (hM : MK base mb gm ng nl lm W ((M.more [23, -1]).more R) V) => lay0 hM [21] 3 (by simpa using b2)
 have L3 := fun W V (hM : MK base mb gm ng nl lm W (((M.more [23, -1]).more R).more [21]) V) => lay0 hM [22, -1] 3 (by simpa using b3)
 have A1 := fun W V (hM : MK base mb gm ng nl lm W ((((M.more [23, -1]).more R).more [21]).more [22, -1]) V) => aim_any hM b5 b4
 have L4 := fun W V (hM : MK base mb gm ng nl lm W (((((M.more [23, -1]).more R).more [21]).more [22, -1]).told (M.words.length + 1) ((((M.more [23, -1]).more R).more [21]).more [22, -1]).words.length) V) => lay0 hM [2, 0] 3 (by simpa using b6)
 have A2 := fun W V (hM : MK base mb gm ng nl lm W ((((((M.more [23, -1]).more R).more [21]).more [22, -1]).told (M.words.length + 1) ((((M.more [23, -1]).more R).more [21]).more [22, -1]).words.length).more [2, 0]) V) => aim_any hM b8 b7
 have F2 := HF3.out
 clear HF3 b1 b2 b3 b4 b5 b6 b7 b8 hRl hl1 hlen hbig
 change ∀ W V, MK base mb gm ng nl lm W ((((M.more [23, -1]).more R).more [21]).more [22, -1]) V -> Calls Tryz.prog 184 #[.pointer (some ⟨mb, 0, none⟩), .int .i64 M.words.length] W fun e w' => e = .returned (.tuple #[]) /\ MK base mb gm ng nl lm w' (((((M.more [23, -1]).more R).more [21]).more [22, -1]).told (M.words.length + 1) ((((M.more [23, -1]).more R).more [21]).more [22, -1]).words.length) V /\ Mv mb V V W w' at A1
 change ∀ W V, MK base mb gm ng nl lm W ((((((M.more [23, -1]).more R).more [21]).more [22, -1]).told (M.words.length + 1) ((((M.more [23, -1]).more R).more [21]).more [22, -1]).words.length).more [2, 0]) V -> Calls Tryz.prog 184 #[.pointer (some ⟨mb, 0, none⟩), .int .i64 (((M.more [23, -1]).more R).more [21]).words.length] W fun e w' => e = .returned (.tuple #[]) /\ MK base mb gm ng nl lm w' (((((((M.more [23, -1]).more R).more [21]).more [22, -1]).told (M.words.length + 1) ((((M.more [23, -1]).more R).more [21]).more [22, -1]).words.length).more [2, 0]).told ((((M.more [23, -1]).more R).more [21]).words.length + 1) (((((((M.more [23, -1]).more R).more [21]).more [22, -1]).told (M.words.length + 1) ((((M.more [23, -1]).more R).more [21]).more [22, -1]).words.length).more [2, 0]).words.length)) V /\ Mv mb V V W w' at A2
 rw [F2] at A2
 clear F2
 generalize M.more ((andC E M.words.length r).map Int.ofNat) = M9 at *
 generalize ((((((M.more [23, -1]).more R).more [21]).more [22, -1]).told (M.words.length + 1) ((((M.more [23, -1]).more R).more [21]).more [22, -1]).words.length).more [2, 0]) = M6 at *
 generalize (((((M.more [23, -1]).more R).more [21]).more [22, -1]).told (M.words.length + 1) ((((M.more [23, -1]).more R).more [21]).more [22, -1]).words.length) = M5 at *
 generalize ((((M.more [23, -1]).more R).more [21]).more [22, -1]) = M4 at *
 generalize (((M.more [23, -1]).more R).more [21]) = M3 at *
 generalize ((M.more [23, -1]).more R) = M2 at *
 generalize (M.more [23, -1]) = M1 at *
 unfold MPost at hX
 go_enter Tryz.func199, Tryz.ntmps199
 go_wp2_with (first
  | (go_at_call 184; have _q := hM6; refine (A2 _ _ hM6).mono ?_; rintro e w7 ⟨rfl, hM7, hv7⟩)
  | (go_at_call 101; have _q := hM5; refine (L4 _ _ hM5).mono ?_; rintro e w6 ⟨rfl, v6, hM6, hv6⟩)
  | (go_at_call 184; have _q := hM4; refine (A1 _ _ hM4).mono ?_; rintro e w5 ⟨rfl, hM5, hv5⟩)
  | (go_at_call 101; have _q := hM3; refine (L3 _ _ hM3).mono ?_; rintro e w4 ⟨rfl, v4, hM4, hv4⟩)
  | (go_at_call 101; have _q := hM2; refine (L2 _ _ hM2).mono ?_; rintro e w3 ⟨rfl, v3, hM3, hv3⟩)
  | (go_at_call 155; refine (hX _ _ hM1 hv1).mono ?_; rintro e w2 ⟨rfl, v2, hM2, hv2⟩)
  | (go_at_call 101; refine L1.mono ?_; rintro e w1 ⟨rfl, v1, hM1, hv1⟩))
 go_end0
 exact ⟨rfl, _, hM7, hv1.trans (hv2.trans (hv3.trans (hv4.trans (hv5.trans (hv6.trans hv7)))))⟩
end
section
variable {base mb gm ng nl : Nat} {lm : Option Nat} {w w' : World} {M : Mkr} {v v' : Value}
theorem or_words (M : Mkr) (R : List Int) {E : CE} {r : Ex} (hR : R = (cEx E (M.words.length + 6) r).map Int.ofNat) :
  (((((((M.more [23, -1]).more [2, 1]).more [22, -1]).told (M.words.length + 1) (((M.more [23, -1]).more [2, 1]).more [22, -1]).words.length).more R).more [21]).told (((M.more [23, -1]).more [2, 1]).words.length + 1)
   (((((((M.more [23, -1]).more [2, 1]).more [22, -1]).told (M.words.length + 1) (((M.more [23, -1]).more [2, 1]).more [22, -1]).words.length).more R).more [21]).words.length)) = M.more ((orC E M.words.length r).map Int.ofNat) := by
 have e1 : ((M.more [23, -1]).more [2, 1]).more [22, -1] = M.more ([23, -1] ++ ([2, 1] ++ [22, -1])) := by simp [more_more]
 rw [e1, told_more]
 have e2 : (M.more [23, -1]).more [2, 1] = M.more ([23, -1] ++ [2, 1]) := by simp [more_more]
 rw [e2]
 generalize hk : (M.more ([23, -1] ++ ([2, 1] ++ [22, -1]))).words.length = k
 have e3 : ((M.more ([23, (k : Int)] ++ ([2, 1] ++ [22, -1]))).more R).more [21] = (M.more ([23, (k : Int)] ++ [2, 1])).more ([22, -1] ++ (R ++ [21])) := by simp [more_more]
 have e4 : (M.more ([23, -1] ++ [2, 1])).words.length = (M.more ([23, (k : Int)] ++ [2, 1])).words.length := by simp [more_len]
 rw [e3, e4, told_more, more_more]
 subst hR
 congr 1
 unfold orC
 simp only [more_len, List.length_append, List.length_cons, List.length_nil, List.length_map, List.map_append, List.map_cons, List.map_nil, List.cons_append, List.nil_append] at hk ⊢
 congr 2
 ·show (k : Int) = _; rw [<- hk]; rfl
 ·congr 4
  simp
  omega
theorem or_any {E : CE} {r : Ex} (ih : EX base mb gm ng nl lm E r) {Q : Nat -> Prop} {vr : Value} (h : MK base mb gm ng nl lm w M v) (hE : M.E = E) (hr : REx Q w vr r) (hQ : ∀ b, Q b -> b < base /\ b ≠ mb) (hO : OkEx r) (hbig : M.words.length + (orC E M.words.length r).length <= 1000000) :
  Calls Tryz.prog 200 #[.pointer (some ⟨mb, 0, none⟩), vr] w (MPost base mb gm ng nl lm (M.more ((orC E M.words.length r).map Int.ofNat)) v w) := by
 have hlen : (orC E M.words.length r).length = (cEx E (M.words.length + 6) r).length + 7 := by unfold orC; simp
 rw [hlen] at hbig
 have F2 := or_words M _ (E := E) (r := r) rfl
 have hl1 : ((((M.more [23, -1]).more [2, 1]).more [22, -1]).told (M.words.length + 1) (((M.more [23, -1]).more [2, 1]).more [22, -1]).words.length).words.length = M.words.length + 6 := by simp [more_len, told_len]
 have hX : ∀ w1 v1, MK base mb gm ng nl lm w1 ((((M.more [23, -1]).more [2, 1]).more [22, -1]).told (M.words.length + 1) (((M.more [23, -1]).more [2, 1]).more [22, -1]).words.length) v1 -> Mv mb v v1 w w1 -> Calls Tryz.prog 155 #[.pointer (some ⟨mb, 0, none⟩), vr] w1 (MPost base mb gm ng nl lm (((((M.more [23, -1]).more [2, 1]).more [22, -1]).told (M.words.length + 1) (((M.more [23, -1]).more [2, 1]).more [22, -1]).words.length).more ((cEx E (M.words.length + 6) r).map Int.ofNat)) v1 w1) := fun w1 v1 h1 hk => by
  have := ih Q w1 vr _ v1 h1 hE (hr.keep (hk.keepQ h hQ)) hQ hO (by rw [hl1]; omega)
  rw [hl1] at this
  exact this
 have hRl : ((cEx E (M.words.length + 6) r).map Int.ofNat).length <= (cEx E (M.words.length + 6) r).length := by simp
 generalize (cEx E (M.words.length + 6) r).map Int.ofNat = R at *
 generalize (cEx E (M.words.length + 6) r).length = rl at *
 have b1 : M.words.length + 2 <= 1000000 := by omega
 have b2 : (M.more [23, -1]).words.length + 2 <= 1000000 := by simp only [more_len, List.length_cons, List.length_nil]; omega
 have b3 : ((M.more [23, -1]).more [2, 1]).words.length + 2 <= 1000000 := by simp only [more_len, List.length_cons, List.length_nil]; omega
 have b4 : (((M.more [23, -1]).more [2, 1]).more [22, -1]).words.length <= 1000000 := by simp only [more_len, List.length_cons, List.length_nil]; omega
 have b5 : M.words.length + 1 < (((M.more [23, -1]).more [2, 1]).more [22, -1]).words.length := by simp only [more_len, List.length_cons, List.length_nil]; omega
 have b6 : (((((M.more [23, -1]).more [2, 1]).more [22, -1]).told (M.words.length + 1) (((M.more [23, -1]).more [2, 1]).more [22, -1]).words.length).more R).words.length + 1 <= 1000000 := by simp only [more_len, told_len, List.length_cons, List.length_nil]; omega
 have b7 : ((((((M.more [23, -1]).more [2, 1]).more [22, -1]).told (M.words.length + 1) (((M.more [23, -1]).more [2, 1]).more [22, -1]).words.length).more R).more [21]).words.length <= 1000000 := by simp only [more_len, told_len, List.length_cons, List.length_nil]; omega
 have b8 : ((M.more [23, -1]).more [2, 1]).words.length + 1 < ((((((M.more [23, -1]).more [2, 1]).more [22, -1]).told (M.words.length + 1) (((M.more [23, -1]).more [2, 1]).more [22, -1]).words.length).more R).more [21]).words.length := by simp only [more_len, told_len, List.length_cons, List.length_nil]; omega
 have L1 := lay0 h [23, -1] 3 (by simpa using b1)
 have L2 := fun W V (hM : MK base mb gm ng nl lm W (M.more [23, -1]) V) => lay0 hM [2, 1] 3 (by simpa using b2)
 have L3 := fun W V (hM : MK base mb gm ng nl lm W ((M.more [23, -1]).more [2, 1]) V) => lay0 hM [22, -1] 3 (by simpa using b3)
 have A1 : ∀ W V, MK base mb gm ng nl lm W (((M.more [23, -1]).more [2, 1]).more [22, -1]) V -> Calls Tryz.prog 184 #[.pointer (some ⟨mb, 0, none⟩), .int .i64 M.words.length] W fun e w' => e = .returned (.tuple #[]) /\ MK base mb gm ng nl lm w' ((((M.more [23, -1]).more [2, 1]).more [22, -1]).told (M.words.length + 1) (((M.more [23, -1]).more [2, 1]).more [22, -1]).words.length) V /\ Mv mb V V W w' := fun W V hM => aim_any hM b5 b4
 have L4 := fun W V (hM : MK base mb gm ng nl lm W (((((M.more [23, -1]).more [2, 1]).more [22, -1]).told (M.words.length + 1) (((M.more [23, -1]).more [2, 1]).more [22, -1]).words.length).more R) V) => lay0 hM [21] 3 (by simpa using b6)
 have A2 : ∀ W V, MK base mb gm ng nl lm W ((((((M.more [23, -1]).more [2, 1]).more [22, -1]).told (M.words.length + 1) (((M.more [23, -1]).more [2, 1]).more [22, -1]).words.length).more R).more [21]) V -> Calls Tryz.prog 184 #[.pointer (some ⟨mb, 0, none⟩), .int .i64 ((M.more [23, -1]).more [2, 1]).words.length] W fun e w' => e = .returned (.tuple #[]) /\ MK base mb gm ng nl lm w' (((((((M.more [23, -1]).more [2, 1]).more [22, -1]).told (M.words.length + 1) (((M.more [23, -1]).more [2, 1]).more [22, -1]).words.length).more R).more [21]).told (((M.more [23, -1]).more [2, 1]).words.length + 1)
   (((((((M.more [23, -1]).more [2, 1]).more [22, -1]).told (M.words.length + 1) (((M.more [23, -1]).more [2, 1]).more [22, -1]).words.length).more R).more [21]).words.length)) V /\ Mv mb V V W w' := fun W V hM => aim_any hM b8 b7
 rw [F2] at A2
 clear F2 b1 b2 b3 b4 b5 b6 b7 b8 hRl hl1 hlen hbig
 generalize M.more ((orC E M.words.length r).map Int.ofNat) = M9 at *
 generalize ((((((M.more [23, -1]).more [2, 1]).more [22, -1]).told (M.words.length + 1) (((M.more [23, -1]).more [2, 1]).more [22, -1]).words.length).more R).more [21]) = M6 at *
 generalize (((((M.more [23, -1]).more [2, 1]).more [22, -1]).told (M.words.length + 1) (((M.more [23, -1]).more [2, 1]).more [22, -1]).words.length).more R) = M5 at *
 generalize ((((M.more [23, -1]).more [2, 1]).more [22, -1]).told (M.words.length + 1) (((M.more [23, -1]).more [2, 1]).more [22, -1]).words.length) = M4 at *
 generalize (((M.more [23, -1]).more [2, 1]).more [22, -1]) = M3 at *
 generalize ((M.more [23, -1]).more [2, 1]) = M2 at *
 generalize (M.more [23, -1]) = M1 at *
 unfold MPost at hX
 go_enter Tryz.func200, Tryz.ntmps200
 go_wp2_with (first
  | (go_at_call 184; have _q := hM6; refine (A2 _ _ hM6).mono ?_; rintro e w7 ⟨rfl, hM7, hv7⟩)
  | (go_at_call 101; have _q := hM5; refine (L4 _ _ hM5).mono ?_; rintro e w6 ⟨rfl, v6, hM6, hv6⟩)
  | (go_at_call 155; refine (hX _ _ hM4 (hv1.trans (hv2.trans (hv3.trans hv4)))).mono ?_; rintro e w5 ⟨rfl, v5, hM5, hv5⟩)
  | (go_at_call 184; refine (A1 _ _ hM3).mono ?_; rintro e w4 ⟨rfl, hM4, hv4⟩)
  | (go_at_call 101; have _q := hM2; refine (L3 _ _ hM2).mono ?_; rintro e w3 ⟨rfl, v3, hM3, hv3⟩)
  | (go_at_call 101; have _q := hM1; refine (L2 _ _ hM1).mono ?_; rintro e w2 ⟨rfl, v2, hM2, hv2⟩)
  | (go_at_call 101; refine L1.mono ?_; rintro e w1 ⟨rfl, v1, hM1, hv1⟩))
 go_end0
 exact ⟨rfl, _, hM7, hv1.trans (hv2.trans (hv3.trans (hv4.trans (hv5.trans (hv6.trans hv7)))))⟩
theorem lay0d (h : MK base mb gm ng nl lm w M v) (ks : List Int) (t : TypeId) (hbig : M.words.length + ks.length <= 1000000) :
  Calls Tryz.prog 101 #[.pointer (some ⟨mb, 0, none⟩), .slice (some ⟨w.heap.size, 0, none⟩) ks.length ks.length] (w.alloc (.cells (ks.map (Value.int .i64)).toArray t)).drew
   fun e w' => e = .returned (.int .i64 M.words.length) /\ ∃ v', MK base mb gm ng nl lm w' (M.more ks) v' /\ Mv mb v v' w w' :=
 layB h ((Below.refl _ _).alloc (Nat.le_refl _) _).drew (newCells w ks t) hbig
theorem Mv.new {A : Array Value} {t : TypeId} (h : MK base mb gm ng nl lm w M v) (hk : Mv mb v v' (w.alloc (.cells A t)) w') (o : Nat) : w'.cell? ⟨w.heap.size, o, none⟩ = A[o]? := by
 have hlt := h.lt
 rw [hk.1.cell (k := w.heap.size) (by simp) (by
  rintro (e | e)
  ·omega
  ·have := (h.row _ e).2.1; omega)]
 exact World.cell?_alloc_new w A t o
end
section
variable {base mb gm ng nl : Nat} {lm : Option Nat} {w w' : World} {M : Mkr} {v v' : Value}
def findC (E : CE) (p : Nat) (n : ByteArray) (i : Ex) : List Nat := cEx E p i ++ [7, (E.g n).1, (E.g n).2]
theorem findS (h : MK base mb gm ng nl lm w M v) {n : ByteArray} (hn : n.size <= maxLen) :
  w.cell? ⟨mb, 2, none⟩ = some (.map (some gm)) /\ (Instr.lookup 170 (.map (some gm)) (.string n) false).run Tryz.prog w.drew = .ok (symV (M.E.g n)) w.drew /\
   ∀ B, (w.alloc B).drew.cell? ⟨mb, 2, none⟩ = some (.map (some gm)) /\ (Instr.lookup 170 (.map (some gm)) (.string n) false).run Tryz.prog (w.alloc B).drew = .ok (symV (M.E.g n)) (w.alloc B).drew := by
 have k1 : ∀ A, Below w.heap.size w (w.alloc A).drew := fun A => ((Below.refl _ _).alloc (Nat.le_refl _) _).drew
 exact ⟨h.gl, (h.below (Below.refl _ _).drew).gmap.lookupG hn, fun B => ⟨(h.below (k1 B)).gl, (h.below (k1 B)).gmap.lookupG hn⟩⟩
theorem findS2 (h : MK base mb gm ng nl lm w M v) {n : ByteArray} (hn : n.size <= maxLen) :
  w.cell? ⟨mb, 2, none⟩ = some (.map (some gm)) /\ (Instr.lookup 170 (.map (some gm)) (.string n) false).run Tryz.prog w = .ok (symV (M.E.g n)) w := ⟨h.gl, h.gmap.lookupG hn⟩
theorem cfind_any {E : CE} {i : Ex} (ih : EX base mb gm ng nl lm E i) {Q : Nat -> Prop} {vi : Value} {n : ByteArray} (q : Nat) (hn : n.size <= maxLen) (h : MK base mb gm ng nl lm w M v) (hE : M.E = E) (hr : REx Q w vi i) (hQ : ∀ b, Q b -> b < base /\ b ≠ mb) (hO : OkEx i) (hbig : M.words.length + (findC E M.words.length n i).length <= 1000000) :
  Calls Tryz.prog 157 #[.pointer (some ⟨mb, 0, none⟩), .agg #[.string n, .int .i64 q], vi] w (MPost base mb gm ng nl lm (M.more ((findC E M.words.length n i).map Int.ofNat)) v w) := by
 have hlt := h.lt
 have hf0 := gField0
 have hf1 := gField1
 have hlen : (findC E M.words.length n i).length = (cEx E M.words.length i).length + 3 := by unfold findC; simp
 rw [hlen] at hbig
 have k1 : ∀ A, Below w.heap.size w (w.alloc A) := fun A => (Below.refl _ _).alloc (Nat.le_refl _) _
 have hX : ∀ A, Calls Tryz.prog 155 #[.pointer (some ⟨mb, 0, none⟩), vi] (w.alloc A) (MPost base mb gm ng nl lm (M.more ((cEx E M.words.length i).map Int.ofNat)) v (w.alloc A)) := fun A =>
  ih Q _ vi M v (h.below (k1 A)) hE (hr.keep ((Mv.of_below (mb := mb) (v := v) (k1 A)).keepQ h hQ)) hQ hO (by omega)
 have hb2 : (M.more ((cEx E M.words.length i).map Int.ofNat)).words.length + 3 <= 1000000 := by rw [more_len, List.length_map]; omega
 have hG : ∀ W V, MK base mb gm ng nl lm W (M.more ((cEx E M.words.length i).map Int.ofNat)) V -> (Instr.lookup 170 (.map (some gm)) (.string n) false).run Tryz.prog W.drew = .ok (symV (E.g n)) W.drew := fun W V hM => by
  have := (hM.below (Below.refl _ _).drew).gmap.lookupG hn
  rw [more_E, hE] at this
  exact this
 have hF : (M.more ((cEx E M.words.length i).map Int.ofNat)).more [7, ((E.g n).1 : Int), ((E.g n).2 : Int)] = M.more ((findC E M.words.length n i).map Int.ofNat) := by
  rw [more_more]; unfold findC; simp
 have L1 := fun W V (hM : MK base mb gm ng nl lm W (M.more ((cEx E M.words.length i).map Int.ofNat)) V) => lay0d hM [7, ((E.g n).1 : Int), ((E.g n).2 : Int)] 3 (by simpa using hb2)
 rw [hF] at L1
 have HS := fun W V (hM : MK base mb gm ng nl lm W (M.more ((cEx E M.words.length i).map Int.ofNat)) V) => findS hM hn
 have HS9 := fun W V (hM : MK base mb gm ng nl lm W (M.more ((findC E M.words.length n i).map Int.ofNat)) V) => findS2 hM hn
 rw [more_E, hE] at HS HS9
 unfold symV at hG
 generalize E.g n = gn at *
 clear hF hb2 hbig hlen
 generalize M.more ((findC E M.words.length n i).map Int.ofNat) = M9 at *
 generalize M.more ((cEx E M.words.length i).map Int.ofNat) = M1 at *
 unfold MPost at hX
 unfold symV at HS HS9
 go_enter Tryz.func157, Tryz.ntmps157
 go_wp2_with (go_at_call 155; refine (hX _).mono ?_; rintro e w2 ⟨rfl, v2, hM2, hv2⟩; have hL := L1 _ _ hM2)
 have hn2 := Mv.new h hv2 0
 have hlt3 : w.heap.size < w2.heap.size := lt_of_cell (v := .string n) hn2
 obtain ⟨a1, a2, a3⟩ := HS _ _ hM2
 have hmb3 : w.heap.size ≠ mb := by omega
 have hne3 : v2.ownBlock ≠ some w.heap.size := by
  intro e
  rcases hv2.2 with h5 | h5
  ·rw [h5] at e; have := (h.row _ e).2.1; omega
  ·have h6 := h5 _ e
   have h7 : ∀ B, (w.alloc B).heap.size = w.heap.size + 1 := fun B => by simp
   rw [h7] at h6
   omega
 have hS0 : Hid (w2.drew.cell? ⟨mb, 2, none⟩ = some (.map (some gm)) /\ w2.drew.cell? ⟨w.heap.size, 0, none⟩ = some (.string n) /\ (Instr.lookup 170 (.map (some gm)) (.string n) false).run Tryz.prog w2.drew = .ok (.agg #[.int .i64 (gn.1 : Nat), .int .i64 (gn.2 : Nat)]) w2.drew) := ⟨a1, hn2, a2⟩
 have hS1 : Hid (∀ B, (w2.alloc B).drew.cell? ⟨mb, 2, none⟩ = some (.map (some gm)) /\ (w2.alloc B).drew.cell? ⟨w.heap.size, 0, none⟩ = some (.string n) /\ (Instr.lookup 170 (.map (some gm)) (.string n) false).run Tryz.prog (w2.alloc B).drew = .ok (.agg #[.int .i64 (gn.1 : Nat), .int .i64 (gn.2 : Nat)]) (w2.alloc B).drew) := fun B => ⟨(a3 B).1, by rw [show (w2.alloc B).drew.cell? ⟨w.heap.size, 0, none⟩ = (w2.alloc B).cell? ⟨w.heap.size, 0, none⟩ from rfl, World.cell?_alloc_lt _ _ _ hlt3]; exact hn2, (a3 B).2⟩
 clear a1 a2 a3
 go_region_held3 (fun W => W.cell? ⟨mb, 2, none⟩ = some (.map (some gm)) /\ W.cell? ⟨w.heap.size, 0, none⟩ = some (.string n) /\ (Instr.lookup 170 (.map (some gm)) (.string n) false).run Tryz.prog W = .ok (.agg #[.int .i64 (gn.1 : Nat), .int .i64 (gn.2 : Nat)]) W) (first | exact hS0.out | exact hS1.out _ | exact hS3.out) ((go_at_call 101; refine hL.mono ?_; rintro e w3 ⟨rfl, v3, hM3, hv3⟩; have hS3 : Hid (w3.cell? ⟨mb, 2, none⟩ = some (.map (some gm)) /\ w3.cell? ⟨w.heap.size, 0, none⟩ = some (.string n) /\ (Instr.lookup 170 (.map (some gm)) (.string n) false).run Tryz.prog w3 = .ok (.agg #[.int .i64 (gn.1 : Nat), .int .i64 (gn.2 : Nat)]) w3) := ⟨(HS9 _ _ hM3).1, (hv3.1.cell hlt3 (by rintro (e | e); exact hmb3 e; exact hne3 e) 0).trans hn2, (HS9 _ _ hM3).2⟩))
 all_goals go_wp2
 all_goals go_end0
 all_goals exact ⟨rfl, v3, hM3, (Mv.of_below (k1 _)).trans (hv2.trans hv3)⟩
end
end Go.Proofs.YtklobognaldjpaaGreat
