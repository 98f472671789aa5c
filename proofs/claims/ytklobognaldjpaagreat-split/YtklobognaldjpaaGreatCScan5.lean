/- What package scan does: one contract a function. What package scan does, further: words, numbers, signs. What package scan does, further: numbers and signs. What package scan does, further: signs, a t -/
import Derived.Test.YtklobognaldjpaaGreatRows
import Derived.Test.YtklobognaldjpaaGreatCPure5
import Derived.WalkKit
import Derived.Deep.Light
import Derived.WalkSpells
import Derived.WalkLawsBesides
import Derived.Lib.Strings
import Derived.Lib.Slices
import Derived.Lib.Walk
import Derived.Lib.Bytealg
import Derived.Deep.LoopGhost
set_option maxHeartbeats 2000000
set_option maxRecDepth 1000000
namespace Go.Proofs.YtklobognaldjpaaGreat
open Go.RowKit
theorem scanIsLetter_any (c : Int) (w : World) :
  Calls Tryz.prog 137 #[.int .u8 c] w fun e w' => e = .returned (.bool (isLetterB c)) /\ w' = w := by
 by_cases h1 : 97 <= c
 ·by_cases h2 : c <= 122
  ·have hb : isLetterB c = true := by simp [isLetterB, h1, h2]
   rw [hb]; clear hb
   go_enter Tryz.func137, Tryz.ntmps137
   go_wp2
   go_ret
   exact ⟨rfl, rfl⟩
  ·have hb : isLetterB c = false := by simp [isLetterB, h2]
   rw [hb]; clear hb
   go_enter Tryz.func137, Tryz.ntmps137
   go_wp2
   go_ret
   exact ⟨rfl, rfl⟩
 ·have hb : isLetterB c = false := by simp [isLetterB, h1]
  rw [hb]; clear hb
  go_enter Tryz.func137, Tryz.ntmps137
  go_wp2
  go_ret
  exact ⟨rfl, rfl⟩
theorem scanIsDigit_any (c : Int) (w : World) :
  Calls Tryz.prog 139 #[.int .u8 c] w fun e w' => e = .returned (.bool (isDigitB c)) /\ w' = w := by
 by_cases h1 : 48 <= c
 ·by_cases h2 : c <= 57
  ·have hb : isDigitB c = true := by simp [isDigitB, h1, h2]
   rw [hb]; clear hb
   go_enter Tryz.func139, Tryz.ntmps139
   go_wp2
   go_ret
   exact ⟨rfl, rfl⟩
  ·have hb : isDigitB c = false := by simp [isDigitB, h2]
   rw [hb]; clear hb
   go_enter Tryz.func139, Tryz.ntmps139
   go_wp2
   go_ret
   exact ⟨rfl, rfl⟩
 ·have hb : isDigitB c = false := by simp [isDigitB, h1]
  rw [hb]; clear hb
  go_enter Tryz.func139, Tryz.ntmps139
  go_wp2
  go_ret
  exact ⟨rfl, rfl⟩
theorem sliteIndexByte_any (s : ByteArray) (c : Int) (w : World) :
  Calls Tryz.prog 185 #[.string s, .int .u8 c] w fun e w' => e = .returned (.int .i64 (Lib.indexByte s.data.toList c.toNat.toUInt8)) /\ w' = w := by
 go_enter Tryz.func185, Tryz.ntmps185
 go_wp2
 rw [run_callFunc_extern Tryz.func202 (by kernel_rfl) (by kernel_rfl) (by kernel_rfl) (e := Extern.BytealgIndexByte.indexByte) (by kernel_rfl), Lib.run_indexByteString]
 simp only [Result.andThen]
 rw [Oper.upon_value]
 go_wp2
 go_ret
 exact ⟨rfl, rfl⟩
theorem indexByte_any (s : ByteArray) (c : Int) (w : World) :
  Calls Tryz.prog 162 #[.string s, .int .u8 c] w fun e w' => e = .returned (.int .i64 (Lib.indexByte s.data.toList c.toNat.toUInt8)) /\ w' = w := by
 go_enter Tryz.func162, Tryz.ntmps162
 go_wp2_with (go_at_call 185; refine (sliteIndexByte_any _ _ _).mono ?_; rintro e w' ⟨rfl, rfl⟩)
 go_ret
 exact ⟨rfl, rfl⟩
theorem ret_int {k : IntKind} {a b : Int} (h : a = b) : Ending.returned (.int k a) = .returned (.int k b) := by rw [h]
theorem ix_lt : ∀ (l : List UInt8) (c : UInt8), Lib.indexByte l c < l.length ∨ l = [] /\ Lib.indexByte l c = -1
 | [], _ => Or.inr ⟨rfl, rfl⟩
 | x :: l, c => by
  left
  have := ix_lt l c
  simp only [Lib.indexByte, List.length_cons]
  split
  ·omega
  ·split <;> rcases this with h | ⟨_, h⟩ <;> omega
theorem len_toList (s : ByteArray) : s.data.toList.length = s.size := rfl
theorem head_eq (s : ByteArray) (hs : 0 < s.size) : ∃ r, s.data.toList = s[0] :: r := by
 have h0 : 0 < s.data.toList.length := hs
 match h : s.data.toList, h0 with
 | c :: r, _ =>
  refine ⟨r, ?_⟩
  have : s[0] = s.data.toList[0]'(by rw [h]; simp) := rfl
  rw [this]; simp [h]
theorem byte_iff (c d : UInt8) : c = d ↔ c.toNat = d.toNat := UInt8.toNat_inj.symm
theorem gapSz_nz (s : ByteArray) (hs : 0 < s.size) : gapSz s.data.toList = if s[0].toNat = 32 ∨ s[0].toNat = 10 then 1 else if s[0].toNat = 123 then (Lib.indexByte s.data.toList 125 + 1).toNat else 0 := by
 obtain ⟨r, hr⟩ := head_eq s hs
 rw [hr]
 simp only [gapSz, byte_iff]
 rfl
theorem gapSize_any (s : ByteArray) (w : World) (hs : 0 < s.size) (hm : s.size <= 600) :
  Calls Tryz.prog 136 #[.string s] w fun e w' => e = .returned (.int .i64 (gapSz s.data.toList)) /\ w' = w := by
 have HG : Hid (gapSz s.data.toList = if s[0].toNat = 32 ∨ s[0].toNat = 10 then 1 else if s[0].toNat = 123 then (Lib.indexByte s.data.toList 125 + 1).toNat else 0) := gapSz_nz s hs
 have h1 := Lib.indexByte_ge s.data.toList 125
 have h3 : Lib.indexByte s.data.toList 125 <= 600 := by
  have h2 := ix_lt s.data.toList 125
  have := len_toList s
  omega
 go_enter Tryz.func136, Tryz.ntmps136
 go_wp2_with (go_at_call 162; refine (indexByte_any _ _ _).mono ?_; rintro e w' ⟨rfl, rfl⟩)
 all_goals go_ret
 all_goals refine ⟨ret_int ?_, rfl⟩
 all_goals go_light
 all_goals rw [HG.out]
 all_goals clear HG
 all_goals simp only [beq_iff_eq, beq_eq_false_iff_ne] at *
 all_goals repeat' split
 all_goals omega
theorem gap_zero {l : List UInt8} {p : Nat} (h : gapSz (l.drop p) = 0) : gap l p = p := by
 rw [gap]; split
 ·rfl
 ·rfl
theorem gap_step {l : List UInt8} {p : Nat} (hp : p < l.length) (h : ¬ gapSz (l.drop p) = 0) : gap l p = gap l (p + gapSz (l.drop p)) := by
 rw [gap, if_pos hp, if_neg h]
theorem gap_over {l : List UInt8} {p : Nat} (hp : ¬ p < l.length) : gap l p = p := by
 rw [gap, if_neg hp]
theorem gapSz_le (l : List UInt8) : gapSz l <= l.length := by
 unfold gapSz
 split
 ·simp
 ·rename_i c r
  split
  ·simp
  ·split
   ·have := ix_lt (c :: r) 125
    simp only [List.length_cons] at *
    rcases this with h | ⟨h, _⟩
    ·omega
    ·cases h
   ·omega
theorem gap_le {l : List UInt8} {p : Nat} (h : p <= l.length) : gap l p <= l.length := by
 fun_induction gap l p
 ·assumption
 ·rename_i p hp hz ih
  apply ih
  have := gapSz_le (l.drop p)
  rw [List.length_drop] at this
  omega
 ·assumption
theorem extract_list (s : ByteArray) (p : Nat) : (s.extract p s.size).data.toList = s.data.toList.drop p := by
 simp only [ByteArray.data_extract, Array.toList_extract, List.extract_eq_take_drop]
 rw [List.take_of_length_le]
 rw [List.length_drop, len_toList]
 exact Nat.le_refl _
theorem extract_size (s : ByteArray) (p : Nat) : (s.extract p s.size).size = s.size - p := by
 have := congrArg List.length (extract_list s p)
 rw [List.length_drop, len_toList, len_toList] at this
 exact this
def gapAt (s : ByteArray) (k : Nat) : Nat := gapSz (s.data.toList.drop k)
theorem gapSize_at (s : ByteArray) (k : Nat) (w : World) (hk : k < s.size) (hm : s.size <= 600) :
  Calls Tryz.prog 136 #[.string (s.extract k s.size)] w fun e w' => e = .returned (.int .i64 (gapAt s k)) /\ w' = w := by
 have h := gapSize_any (s.extract k s.size) w (by rw [extract_size]; omega) (by rw [extract_size]; omega)
 rw [extract_list] at h
 exact h
theorem skipGap_any (s : ByteArray) (p : Nat) (w : World) (hp : p <= s.size) (hm : s.size <= 600) :
  Calls Tryz.prog 117 #[.string s, .int .i64 p] w fun e w' => e = .returned (.int .i64 (gap s.data.toList p)) /\ w' = w := by
 go_enter Tryz.func117, Tryz.ntmps117
 go_wp2
 go_loop [1, 5] (fun t _ => ∃ k : Nat, k <= s.size /\ t = .int .i64 k /\ gap s.data.toList k = gap s.data.toList p) (fun t _ => s.size - (intOf t).toNat)
 case atStart => exact ⟨p, hp, rfl, rfl⟩
 case round =>
  obtain ⟨k, hk, rfl, hg⟩ := hrel
  have HK : Hid (gap s.data.toList k = gap s.data.toList p) := hg
  clear hg
  by_cases hlt : k < s.size
  ·have hle2 : gapAt s k <= s.size - k := by
    have hle := gapSz_le (s.data.toList.drop k)
    rw [List.length_drop, len_toList] at hle
    exact hle
   go_wp2_with (go_at_call 136; refine (gapSize_at _ _ _ hlt hm).mono ?_; rintro e w' ⟨rfl, rfl⟩)
   ·rename_i hz
    go_ret
    refine ⟨ret_int ?_, rfl⟩
    rw [<- HK.out, gap_zero]
    have hz' : gapAt s k = 0 := by simpa using hz
    exact hz'
   ·rename_i hz
    have hz' : ¬ gapSz (s.data.toList.drop k) = 0 := by simpa [gapAt] using hz
    go_round
    case rel => exact ⟨k + gapAt s k, by omega, by go_num, by rw [<- HK.out, gap_step hlt hz']; rfl⟩
    case measure => 
     have : ¬ gapAt s k = 0 := hz'
     simp [intOf]; omega
  ·go_wp2
   go_ret
   refine ⟨ret_int ?_, rfl⟩
   rw [<- HK.out, gap_over (by rw [len_toList]; omega)]
def kwB (s : ByteArray) : Bool := keywords.contains s.toList
theorem isKeyword_any (s : ByteArray) (w : World) :
  Calls Tryz.prog 163 #[.string s] w fun e w' => e = .returned (.bool (kwB s)) /\ w' = w := by
 go_enter Tryz.func163, Tryz.ntmps163
 go_wp2
 all_goals go_ret
 all_goals refine ⟨?_, rfl⟩
 all_goals go_light
 all_goals congr 2
 all_goals simp only [kwB, keywords, List.contains_cons, *]
 all_goals first | rfl | simp_all
theorem takeWhile_len {α : Type} (p : α -> Bool) : ∀ (l : List α) (k : Nat), k <= l.length -> (∀ j (_ : j < k) (hl : j < l.length), p l[j] = true) -> (∀ (h : k < l.length), p l[k] = false) -> (l.takeWhile p).length = k
 | [], k, hk, _, _ => by simp at hk; simp [hk]
 | a :: l, 0, _, _, h2 => by
  have := h2 (by simp)
  simp at this
  simp [this]
 | a :: l, k + 1, hk, h1, h2 => by
  have ha := h1 0 (by omega) (by simp)
  simp at ha
  have ih := takeWhile_len p l k (by simp at hk; omega) (fun j h hl => by have := h1 (j + 1) (by omega) (by simp; omega); simpa using this) (fun h => by have := h2 (by simp; omega); simpa using this)
  simp [ha, ih]
def wordB (c : Int) : Bool := isLetterB c || isDigitB c
theorem wordLen_eq (r : ByteArray) (k : Nat) (hk : k <= r.size) (h1 : ∀ j (h : j < r.size), j < k -> wordB r[j].toNat = true) (h2 : ∀ (h : k < r.size), wordB r[k].toNat = false) : wordLen r.data.toList = k := by
 refine takeWhile_len _ r.data.toList k hk (fun j h hl => ?_) (fun h => ?_)
 ·exact h1 j hl h
 ·exact h2 h
def wordTok (r : ByteArray) (p n : Nat) : Value := .agg #[.int .i64 (if kwB (r.extract 0 n) then 3 else 1), .string (r.extract 0 n), .int .i64 0, .int .i64 p]
theorem readWord_any (r : ByteArray) (p : Nat) (w : World) (h0 : 0 < r.size) (hm : r.size <= 600) (hf : wordB r[0].toNat = true) :
  Calls Tryz.prog 138 #[.string r, .int .i64 p] w fun e w' => e = .returned (wordTok r p (wordLen r.data.toList)) /\ Below w.heap.size w w' := by
 go_enter Tryz.func138, Tryz.ntmps138
 go_wp2
 go_loop [5] (fun t => ∃ k : Nat, 1 <= k /\ k <= r.size /\ t = .int .i64 k /\ ∀ j (h : j < r.size), j < k -> wordB r[j].toNat = true) (fun t => r.size - (intOf t).toNat)
 case atStart => exact ⟨1, by omega, by omega, rfl, fun j h hj => by have : j = 0 := by omega
                                                                     subst this; exact hf⟩
 case round =>
  obtain ⟨k, hk1, hk, rfl, hall⟩ := hrel
  have HA : Hid (∀ j (h : j < r.size), j < k -> wordB r[j].toNat = true) := hall
  clear hall hf
  by_cases hlt : k < r.size
  ·by_cases ha : isLetterB r[k].toNat = true
   ·go_wp2_with (first | (go_at_call 137; refine (scanIsLetter_any _ _).mono ?_; rintro e w' ⟨rfl, rfl⟩) | (go_at_call 139; refine (scanIsDigit_any _ _).mono ?_; rintro e w' ⟨rfl, rfl⟩))
    go_round
    case rel => exact ⟨k + 1, by omega, by omega, by go_num, fun j h hj => by
     by_cases e : j = k
     ·subst e; simp only [wordB, ha, Bool.true_or]
     ·exact HA.out j h (by omega)⟩
    case measure => simp [intOf]; omega
   ·have ha' : isLetterB r[k].toNat = false := by simpa using ha
    clear ha
    by_cases hd : isDigitB r[k].toNat = true
    ·go_wp2_with (first | (go_at_call 137; refine (scanIsLetter_any _ _).mono ?_; rintro e w' ⟨rfl, rfl⟩) | (go_at_call 139; refine (scanIsDigit_any _ _).mono ?_; rintro e w' ⟨rfl, rfl⟩) | (go_at_call 163; refine (isKeyword_any _ _).mono ?_; rintro e w' ⟨rfl, rfl⟩))
     go_round
     case rel => exact ⟨k + 1, by omega, by omega, by go_num, fun j h hj => by
      by_cases e : j = k
      ·subst e; simp only [wordB, hd, Bool.or_true]
      ·exact HA.out j h (by omega)⟩
     case measure => simp [intOf]; omega
    ·have hd' : isDigitB r[k].toNat = false := by simpa using hd
     clear hd
     have HW : Hid (wordLen r.data.toList = k) := wordLen_eq r k hk HA.out (fun h => by simp [wordB, ha', hd'])
     by_cases hkw : kwB (r.extract 0 k) = true
     ·go_wp2_with (first | (go_at_call 137; refine (scanIsLetter_any _ _).mono ?_; rintro e w' ⟨rfl, rfl⟩) | (go_at_call 139; refine (scanIsDigit_any _ _).mono ?_; rintro e w' ⟨rfl, rfl⟩) | (go_at_call 163; refine (isKeyword_any _ _).mono ?_; rintro e w' ⟨rfl, rfl⟩))
      refine bodyPost_ret (v := wordTok r p k) (by simp [results, Tryz.results138, go_sem, wordTok, hkw]) rfl ⟨by rw [HW.out], ?_⟩
      exact ((Below.refl _ _).alloc (Nat.le_refl _) _).alloc (by simp) _
     ·have hkw' : kwB (r.extract 0 k) = false := by simpa using hkw
      clear hkw
      go_wp2_with (first | (go_at_call 137; refine (scanIsLetter_any _ _).mono ?_; rintro e w' ⟨rfl, rfl⟩) | (go_at_call 139; refine (scanIsDigit_any _ _).mono ?_; rintro e w' ⟨rfl, rfl⟩) | (go_at_call 163; refine (isKeyword_any _ _).mono ?_; rintro e w' ⟨rfl, rfl⟩))
      refine bodyPost_ret (v := wordTok r p k) (by simp [results, Tryz.results138, go_sem, wordTok, hkw']) rfl ⟨by rw [HW.out], ?_⟩
      exact ((Below.refl _ _).alloc (Nat.le_refl _) _).alloc (by simp) _
  ·have HW : Hid (wordLen r.data.toList = k) := wordLen_eq r k hk HA.out (fun h => absurd h hlt)
   by_cases hkw : kwB (r.extract 0 k) = true
   ·go_wp2_with (first | (go_at_call 137; refine (scanIsLetter_any _ _).mono ?_; rintro e w' ⟨rfl, rfl⟩) | (go_at_call 139; refine (scanIsDigit_any _ _).mono ?_; rintro e w' ⟨rfl, rfl⟩) | (go_at_call 163; refine (isKeyword_any _ _).mono ?_; rintro e w' ⟨rfl, rfl⟩))
    refine bodyPost_ret (v := wordTok r p k) (by simp [results, Tryz.results138, go_sem, wordTok, hkw]) rfl ⟨by rw [HW.out], ?_⟩
    exact ((Below.refl _ _).alloc (Nat.le_refl _) _).alloc (by simp) _
   ·have hkw' : kwB (r.extract 0 k) = false := by simpa using hkw
    clear hkw
    go_wp2_with (first | (go_at_call 137; refine (scanIsLetter_any _ _).mono ?_; rintro e w' ⟨rfl, rfl⟩) | (go_at_call 139; refine (scanIsDigit_any _ _).mono ?_; rintro e w' ⟨rfl, rfl⟩) | (go_at_call 163; refine (isKeyword_any _ _).mono ?_; rintro e w' ⟨rfl, rfl⟩))
    refine bodyPost_ret (v := wordTok r p k) (by simp [results, Tryz.results138, go_sem, wordTok, hkw']) rfl ⟨by rw [HW.out], ?_⟩
    exact ((Below.refl _ _).alloc (Nat.le_refl _) _).alloc (by simp) _
theorem valOf_snoc (l : List UInt8) (c : UInt8) : valOf (l ++ [c]) = 10 * valOf l + (c.toNat - 48) := by
 simp [valOf, List.foldl_append]
theorem valFold_ge (m : List UInt8) : ∀ n : Nat, n <= m.foldl (fun n c => 10 * n + (c.toNat - 48)) n := by
 induction m with
 | nil => intro n; exact Nat.le_refl _
 | cons a m ih => intro n; have := ih (10 * n + (a.toNat - 48)); simp only [List.foldl_cons]; omega
theorem valOf_mono (l m : List UInt8) : valOf l <= valOf (l ++ m) := by
 unfold valOf; rw [List.foldl_append]; exact valFold_ge m _
theorem take_snoc' (s : ByteArray) (k : Nat) (h : k < s.size) : s.data.toList.take (k + 1) = s.data.toList.take k ++ [s[k]] := by
 rw [List.take_succ_eq_append_getElem (by exact h)]; rfl
theorem digLen_eq (r : ByteArray) (k : Nat) (hk : k <= r.size) (h1 : ∀ j (h : j < r.size), j < k -> isDigitB r[j].toNat = true) (h2 : ∀ (h : k < r.size), isDigitB r[k].toNat = false) : digLen r.data.toList = k := by
 refine takeWhile_len _ r.data.toList k hk (fun j h hl => ?_) (fun h => ?_)
 ·exact h1 j hl h
 ·exact h2 h
theorem takeWhile_ge {α : Type} (p : α -> Bool) : ∀ (l : List α) (k : Nat), k <= l.length -> (∀ j (_ : j < k) (hl : j < l.length), p l[j] = true) -> k <= (l.takeWhile p).length
 | _, 0, _, _ => Nat.zero_le _
 | [], k + 1, hk, _ => by simp at hk
 | a :: l, k + 1, hk, h1 => by
  have ha := h1 0 (by omega) (by simp)
  simp at ha
  have ih := takeWhile_ge p l k (by simp at hk; omega) (fun j h hl => by have := h1 (j + 1) (by omega) (by simp; omega); simpa using this)
  simp [ha, ih]
theorem val_prefix (r : ByteArray) (k : Nat) (hk : k <= r.size) (h1 : ∀ j (h : j < r.size), j < k -> isDigitB r[j].toNat = true) : valOf (r.data.toList.take k) <= valOf (r.data.toList.take (digLen r.data.toList)) := by
 have hge : k <= digLen r.data.toList := takeWhile_ge _ _ k hk (fun j h hl => h1 j hl h)
 have : r.data.toList.take (digLen r.data.toList) = r.data.toList.take k ++ (r.data.toList.drop k).take (digLen r.data.toList - k) := by
  rw [<- List.take_add]; congr 1; omega
 rw [this]; exact valOf_mono _ _
def numTok (r : ByteArray) (p : Nat) : Value :=
 .agg #[.int .i64 2, .string (r.extract 0 (digLen r.data.toList)), .int .i64 (valOf (r.data.toList.take (digLen r.data.toList))), .int .i64 p]
def zeroTok : Value := .agg #[.int .i64 0, .string ⟨#[]⟩, .int .i64 0, .int .i64 0]
def numRes (r : ByteArray) (p : Nat) : Value := if valOf (r.data.toList.take (digLen r.data.toList)) > maxNumber then .tuple #[zeroTok, .int .i64 3] else .tuple #[numTok r p, .int .i64 0]
theorem isDigitB_iff (c : Int) : isDigitB c = true ↔ 48 <= c /\ c <= 57 := by simp [isDigitB]
theorem readNumber_any (r : ByteArray) (p : Nat) (w : World) (hm : r.size <= 600) :
  Calls Tryz.prog 140 #[.string r, .int .i64 p] w fun e w' =>
   e = .returned (numRes r p) /\ Below w.heap.size w w' := by
 go_enter Tryz.func140, Tryz.ntmps140
 go_wp2
 go_loop [6, 7] (fun t u => ∃ k v : Nat, k <= r.size /\ v <= 2147483647 /\ t = .int .i64 k /\ u = .int .i64 v /\ v = valOf (r.data.toList.take k) /\ ∀ j (h : j < r.size), j < k -> isDigitB r[j].toNat = true) (fun t _ => r.size - (intOf t).toNat)
 case atStart => exact ⟨0, 0, by omega, by omega, rfl, rfl, rfl, fun j h hj => absurd hj (Nat.not_lt_zero _)⟩
 case round =>
  obtain ⟨k, v, hk, hv, rfl, rfl, hval, hall⟩ := hrel
  have HA : Hid (∀ j (h : j < r.size), j < k -> isDigitB r[j].toNat = true) := hall
  have HV : Hid (v = valOf (r.data.toList.take k)) := hval
  clear hall hval
  by_cases hlt : k < r.size
  ·by_cases hd : isDigitB r[k].toNat = true
   ·have hb := (isDigitB_iff _).1 hd
    obtain ⟨hb1, hb2⟩ := hb
    have HN : Hid (valOf (r.data.toList.take (k + 1)) = 10 * v + (r[k].toNat - 48)) := by
     show _ = _
     rw [take_snoc' r k hlt, valOf_snoc, HV.out]
    have HA' : Hid (∀ j (h : j < r.size), j < k + 1 -> isDigitB r[j].toNat = true) := fun j h hj => by
     by_cases e : j = k
     ·subst e; exact hd
     ·exact HA.out j h (by omega)
    by_cases hbig : (2147483647 : Int) < v * 10 + (r[k].toNat - 48)
    ·go_wp2_with (go_at_call 139; refine (scanIsDigit_any _ _).mono ?_; rintro e w' ⟨rfl, rfl⟩)
     refine bodyPost_ret (v := .tuple #[zeroTok, .int .i64 3]) (by simp [results, Tryz.results140, go_sem, zeroTok]) rfl ⟨?_, (Below.refl _ _).alloc (Nat.le_refl _) _⟩
     have h1 := val_prefix r (k + 1) (by omega) HA'.out
     have h2 := HN.out
     rw [numRes, if_pos (by unfold maxNumber; omega)]
    ·go_wp2_with (go_at_call 139; refine (scanIsDigit_any _ _).mono ?_; rintro e w' ⟨rfl, rfl⟩)
     go_round
     case rel => exact ⟨k + 1, 10 * v + (r[k].toNat - 48), by omega, by omega, by go_num, by go_num, HN.out.symm, HA'.out⟩
     case measure => simp [intOf]; omega
   ·have hd' : isDigitB r[k].toNat = false := by simpa using hd
    clear hd
    have HD : Hid (digLen r.data.toList = k) := digLen_eq r k hk HA.out (fun h => hd')
    go_wp2_with (go_at_call 139; refine (scanIsDigit_any _ _).mono ?_; rintro e w' ⟨rfl, rfl⟩)
    refine bodyPost_ret (v := .tuple #[numTok r p, .int .i64 0]) (by simp [results, Tryz.results140, go_sem, numTok, HD.out, <- HV.out]) rfl ⟨?_, (Below.refl _ _).alloc (Nat.le_refl _) _⟩
    rw [numRes, if_neg (by rw [HD.out, <- HV.out]; unfold maxNumber; omega)]
  ·have HD : Hid (digLen r.data.toList = k) := digLen_eq r k hk HA.out (fun h => absurd h hlt)
   go_wp2_with (go_at_call 139; refine (scanIsDigit_any _ _).mono ?_; rintro e w' ⟨rfl, rfl⟩)
   refine bodyPost_ret (v := .tuple #[numTok r p, .int .i64 0]) (by simp [results, Tryz.results140, go_sem, numTok, HD.out, <- HV.out]) rfl ⟨?_, (Below.refl _ _).alloc (Nat.le_refl _) _⟩
   rw [numRes, if_neg (by rw [HD.out, <- HV.out]; unfold maxNumber; omega)]
theorem sliteHasPrefix_any (s p : ByteArray) (w : World) :
  Calls Tryz.prog 186 #[.string s, .string p] w fun e w' => e = .returned (.bool (Lib.hasPrefix s.data.toList p.data.toList)) /\ w' = w := by
 rw [<- Lib.hasPrefix_of_take, <- Lib.size_eq, <- Lib.size_eq]
 go_enter Tryz.func186, Tryz.ntmps186
 go_wp2
 ·rename_i h
  go_ret
  refine ⟨?_, rfl⟩
  show Ending.returned (Value.bool ((s.extract 0 p.size).toList == p.toList)) = _
  rw [Lib.extract_toList, Lib.toList_data]
  simp [h]
 ·rename_i h
  go_ret
  refine ⟨?_, rfl⟩
  show Ending.returned (Value.bool false) = _
  simp [h]
theorem hasPrefix_any (s p : ByteArray) (w : World) :
  Calls Tryz.prog 164 #[.string s, .string p] w fun e w' => e = .returned (.bool (Lib.hasPrefix s.data.toList p.data.toList)) /\ w' = w := by
 go_enter Tryz.func164, Tryz.ntmps164
 go_wp2_with (go_at_call 186; refine (sliteHasPrefix_any _ _ _).mono ?_; rintro e w' ⟨rfl, rfl⟩)
 go_ret
 exact ⟨rfl, rfl⟩
def signSz (l : List UInt8) : Nat :=
 match l with
 | [] => 0
 | c :: r => if signs.contains c then 1 else if c = 58 /\ r.head? = some 61 then 2 else 0
theorem signSz_le (l : List UInt8) : signSz l <= l.length := by
 unfold signSz; split
 ·simp
 ·rename_i c r
  split
  ·simp
  ·split
   ·rename_i hh
    cases r with
    | nil => simp at hh
    | cons d r => simp
   ·omega
def assignB (s : ByteArray) : Bool := Lib.hasPrefix s.data.toList [58, 61]
theorem hasPrefix_assign (s : ByteArray) (w : World) :
  Calls Tryz.prog 164 #[.string s, .string ⟨#[58, 61]⟩] w fun e w' => e = .returned (.bool (assignB s)) /\ w' = w := hasPrefix_any s ⟨#[58, 61]⟩ w
theorem assignB_eq (c : UInt8) (r : List UInt8) : Lib.hasPrefix (c :: r) [58, 61] = decide (c = 58 /\ r.head? = some 61) := by
 rw [Bool.eq_iff_iff]
 cases r with
 | nil => simp [Lib.hasPrefix]
 | cons d r =>
  simp only [Lib.hasPrefix, List.isPrefixOf, Bool.and_true, Bool.and_eq_true, beq_iff_eq, decide_eq_true_eq, List.head?_cons, Option.some.injEq]
  constructor
  ·rintro ⟨a, b⟩; exact ⟨a.symm, b.symm⟩
  ·rintro ⟨a, b⟩; exact ⟨a.symm, b.symm⟩
theorem signSz_nz (s : ByteArray) (hs : 0 < s.size) : signSz s.data.toList = if s[0].toNat ∈ [43, 45, 42, 47, 37, 61, 35, 60, 62, 40, 41, 91, 93, 44, 59, 46] then 1 else if assignB s = true then 2 else 0 := by
 obtain ⟨r, hr⟩ := head_eq s hs
 unfold assignB
 rw [hr, assignB_eq]
 simp only [signSz, decide_eq_true_eq]
 have : (signs.contains s[0] = true) ↔ s[0].toNat ∈ [43, 45, 42, 47, 37, 61, 35, 60, 62, 40, 41, 91, 93, 44, 59, 46] := by
  simp only [signs, List.contains_cons, List.contains_nil, Bool.or_false, Bool.or_eq_true, beq_iff_eq, byte_iff, List.mem_cons, List.not_mem_nil, or_false]
  rfl
 simp only [this]
theorem signSize_any (s : ByteArray) (w : World) (hs : 0 < s.size) :
  Calls Tryz.prog 141 #[.string s] w fun e w' => e = .returned (.int .i64 (signSz s.data.toList)) /\ w' = w := by
 have HG : Hid (signSz s.data.toList = if s[0].toNat ∈ [43, 45, 42, 47, 37, 61, 35, 60, 62, 40, 41, 91, 93, 44, 59, 46] then 1 else if assignB s = true then 2 else 0) := signSz_nz s hs
 go_enter Tryz.func141, Tryz.ntmps141
 go_wp2_with (go_at_call 164; refine (hasPrefix_assign _ _).mono ?_; rintro e w' ⟨rfl, rfl⟩)
 all_goals go_ret
 all_goals refine ⟨ret_int ?_, rfl⟩
 all_goals go_light
 all_goals rw [HG.out]
 all_goals clear HG
 all_goals simp only [beq_iff_eq, beq_eq_false_iff_ne, List.mem_cons, List.not_mem_nil, or_false] at *
 all_goals repeat' split
 all_goals first | omega | simp_all
def TK.p : TK -> Int | .over => 0 | .name => 1 | .number => 2 | .sign => 3 | .keyword => 3
def tokP (t : Tok) : Value := .agg #[.int .i64 t.kind.p, .string t.text, .int .i64 t.val, .int .i64 t.pos]
def tokRes (s : ByteArray) (p : Nat) : Value :=
 match lex1 (s.data.toList.drop p) with
 | .error c => .tuple #[zeroTok, .int .i64 c]
 | .ok x => .tuple #[tokP (mkTok s.data.toList p x), .int .i64 0]
theorem extract_take (r : ByteArray) (n : Nat) : r.extract 0 n = ⟨(r.data.toList.take n).toArray⟩ := by
 apply ByteArray.ext
 apply Array.toList_inj.1
 simp only [ByteArray.data_extract, Array.toList_extract, List.extract_eq_take_drop, List.drop_zero, Nat.sub_zero]
theorem drop_head (s : ByteArray) (p : Nat) (hp : p < s.size) : ∃ t, s.data.toList.drop p = s[p] :: t :=
 ⟨_, List.drop_eq_getElem_cons (by exact hp)⟩
theorem ext_zero (s : ByteArray) (p : Nat) (hp : p < s.size) (h : 0 < (s.extract p s.size).size) : (s.extract p s.size)[0] = s[p] := by
 have : (s.extract p s.size)[0] = (s.extract p s.size).data.toList[0]'(by exact h) := rfl
 rw [this]
 have e : (s.extract p s.size).data.toList[0]? = some s[p] := by
  rw [extract_list]; obtain ⟨t, ht⟩ := drop_head s p hp; rw [ht]; rfl
 have h2 : 0 < (s.extract p s.size).data.toList.length := h
 rw [List.getElem?_eq_getElem h2] at e
 exact Option.some.inj e
theorem tokRes_word (s : ByteArray) (p : Nat) (hp : p < s.size) (hl : isLetterB s[p].toNat = true) :
  tokRes s p = .tuple #[wordTok (s.extract p s.size) p (wordLen (s.data.toList.drop p)), .int .i64 0] := by
 obtain ⟨t, ht⟩ := drop_head s p hp
 have hx : lex1 (s.data.toList.drop p) = .ok (if keywords.contains ((s.data.toList.drop p).take (wordLen (s.data.toList.drop p))) then .keyword else .name, wordLen (s.data.toList.drop p), 0) := by
  rw [ht]; simp only [lex1, letterB, hl, if_true]
 simp only [tokRes, hx, mkTok, tokP, wordTok, kwB, extract_take, extract_list, Lib.toList_data]
 split <;> simp_all [TK.p]
theorem tokRes_num (s : ByteArray) (p : Nat) (hp : p < s.size) (hl : isLetterB s[p].toNat = false) (hd : isDigitB s[p].toNat = true) :
  tokRes s p = numRes (s.extract p s.size) p := by
 obtain ⟨t, ht⟩ := drop_head s p hp
 have hx : lex1 (s.data.toList.drop p) = if valOf ((s.data.toList.drop p).take (digLen (s.data.toList.drop p))) > maxNumber then .error 3 else .ok (.number, digLen (s.data.toList.drop p), valOf ((s.data.toList.drop p).take (digLen (s.data.toList.drop p)))) := by
  rw [ht]; simp only [lex1, letterB, digitB, hl, hd, if_true]; rfl
 by_cases hb : valOf ((s.data.toList.drop p).take (digLen (s.data.toList.drop p))) > maxNumber
 ·rw [if_pos hb] at hx
  simp only [tokRes, hx, numRes, extract_list, if_pos hb]
  rfl
 ·rw [if_neg hb] at hx
  simp only [tokRes, hx, numRes, numTok, extract_list, extract_take, if_neg hb]
  rfl
theorem tokRes_sign (s : ByteArray) (p : Nat) (hp : p < s.size) (hl : isLetterB s[p].toNat = false) (hd : isDigitB s[p].toNat = false) (n : Nat) (hn : signSz (s.data.toList.drop p) = n) (h0 : ¬ n = 0) :
  tokRes s p = .tuple #[.agg #[.int .i64 3, .string ((s.extract p s.size).extract 0 n), .int .i64 0, .int .i64 p], .int .i64 0] := by
 obtain ⟨t, ht⟩ := drop_head s p hp
 have hx : lex1 (s.data.toList.drop p) = .ok (.sign, n, 0) := by
  rw [ht] at hn ⊢; simp only [lex1, letterB, digitB, hl, hd, signSz] at hn ⊢
  split at hn
  ·simp_all
  ·split at hn
   ·simp_all
   ·omega
 simp only [tokRes, hx, extract_take, extract_list, tokP, mkTok, TK.p]
 rfl
theorem tokRes_bad (s : ByteArray) (p : Nat) (hp : p < s.size) (hl : isLetterB s[p].toNat = false) (hd : isDigitB s[p].toNat = false) (hn : signSz (s.data.toList.drop p) = 0) :
  tokRes s p = .tuple #[zeroTok, .int .i64 2] := by
 obtain ⟨t, ht⟩ := drop_head s p hp
 have hx : lex1 (s.data.toList.drop p) = .error 2 := by
  rw [ht] at hn ⊢; simp only [lex1, letterB, digitB, hl, hd, signSz] at hn ⊢
  split at hn
  ·omega
  ·split at hn
   ·omega
   ·simp_all
 simp only [tokRes, hx]
 rfl
def wordLenAt (s : ByteArray) (p : Nat) : Nat := wordLen (s.data.toList.drop p)
def signAt (s : ByteArray) (p : Nat) : Nat := signSz (s.data.toList.drop p)
theorem readWord_at (s : ByteArray) (p : Nat) (w : World) (hp : p < s.size) (hm : s.size <= 600) (hl : isLetterB s[p].toNat = true) :
  Calls Tryz.prog 138 #[.string (s.extract p s.size), .int .i64 p] w fun e w' => e = .returned (wordTok (s.extract p s.size) p (wordLenAt s p)) /\ Below w.heap.size w w' := by
 have h0 : 0 < (s.extract p s.size).size := by rw [extract_size]; omega
 have h := readWord_any (s.extract p s.size) p w h0 (by rw [extract_size]; omega) (by rw [ext_zero s p hp h0]; simp [wordB, hl])
 rw [extract_list] at h
 exact h
theorem readNumber_at (s : ByteArray) (p : Nat) (w : World) (hm : s.size <= 600) :
  Calls Tryz.prog 140 #[.string (s.extract p s.size), .int .i64 p] w fun e w' => e = .returned (numRes (s.extract p s.size) p) /\ Below w.heap.size w w' :=
 readNumber_any (s.extract p s.size) p w (by rw [extract_size]; omega)
theorem signSize_at (s : ByteArray) (p : Nat) (w : World) (hp : p < s.size) :
  Calls Tryz.prog 141 #[.string (s.extract p s.size)] w fun e w' => e = .returned (.int .i64 (signAt s p)) /\ w' = w := by
 have h0 : 0 < (s.extract p s.size).size := by rw [extract_size]; omega
 have h := signSize_any (s.extract p s.size) w h0
 rw [extract_list] at h
 exact h
theorem isLetter_at (s : ByteArray) (p : Nat) (c : Bool) (h0 : 0 < (s.extract p s.size).size) (hp : p < s.size) (hc : isLetterB s[p].toNat = c) (w : World) :
  Calls Tryz.prog 137 #[.int .u8 ((s.extract p s.size)[0].toNat : Nat)] w fun e w' => e = .returned (.bool c) /\ w' = w := by
 rw [ext_zero s p hp h0, <- hc]; exact scanIsLetter_any _ _
theorem isDigit_at (s : ByteArray) (p : Nat) (c : Bool) (h0 : 0 < (s.extract p s.size).size) (hp : p < s.size) (hc : isDigitB s[p].toNat = c) (w : World) :
  Calls Tryz.prog 139 #[.int .u8 ((s.extract p s.size)[0].toNat : Nat)] w fun e w' => e = .returned (.bool c) /\ w' = w := by
 rw [ext_zero s p hp h0, <- hc]; exact scanIsDigit_any _ _
theorem bcell {W w1 : World} (hb : Below W.heap.size W w1) : (∀ b o, b < W.heap.size -> w1.cell? ⟨b, o, none⟩ = W.cell? ⟨b, o, none⟩) /\ (∀ b o, b < W.heap.size -> w1.frozen? ⟨b, o, none⟩ = W.frozen? ⟨b, o, none⟩) :=
 ⟨fun b o h => hb.cell (p := ⟨b, o, none⟩) h, fun b o h => hb.frozen (p := ⟨b, o, none⟩) h⟩
def kwKind (r : ByteArray) (n : Nat) : Int := if kwB (r.extract 0 n) then 3 else 1
theorem readToken_any (s : ByteArray) (p : Nat) (w : World) (hp : p < s.size) (hm : s.size <= 600) :
  Calls Tryz.prog 118 #[.string s, .int .i64 p] w fun e w' => e = .returned (tokRes s p) /\ Below w.heap.size w w' := by
 have h0 : 0 < (s.extract p s.size).size := by rw [extract_size]; omega
 cases hl : isLetterB s[p].toNat with
 | true =>
  have HT : Hid (tokRes s p = .tuple #[.agg #[.int .i64 (kwKind (s.extract p s.size) (wordLenAt s p)), .string ((s.extract p s.size).extract 0 (wordLenAt s p)), .int .i64 0, .int .i64 p], .int .i64 0]) := tokRes_word s p hp hl
  have hL := isLetter_at s p true h0 hp hl
  have hW : ∀ w, Calls Tryz.prog 138 #[.string (s.extract p s.size), .int .i64 p] w fun e w' => e = .returned (.agg #[.int .i64 (kwKind (s.extract p s.size) (wordLenAt s p)), .string ((s.extract p s.size).extract 0 (wordLenAt s p)), .int .i64 0, .int .i64 p]) /\ Below w.heap.size w w' := fun w => readWord_at s p w hp hm hl
  generalize kwKind (s.extract p s.size) (wordLenAt s p) = kk at *
  generalize (s.extract p s.size).extract 0 (wordLenAt s p) = tx at *
  clear hl
  go_enter Tryz.func118, Tryz.ntmps118
  go_wp2_with (first | (go_at_call 137; refine (hL _).mono ?_; rintro e w' ⟨rfl, rfl⟩) | (go_at_call 138; refine (hW _).mono ?_; rintro e w' ⟨rfl, hb⟩; obtain ⟨hc, hf⟩ := bcell hb))
  refine bodyPost_ret (v := .tuple #[.agg #[.int .i64 kk, .string tx, .int .i64 0, .int .i64 p], .int .i64 0]) (by simp [results, Tryz.results118, go_sem, hc]) rfl ⟨by rw [HT.out], ?_⟩
  exact (((((((Below.refl _ _).alloc (Nat.le_refl _) _).trans (hb.mono (by simp))).setCell (by simp) _).setCell (by simp) _).setCell (by simp) _).setCell (by simp) _)
 | false =>
  have hL := isLetter_at s p false h0 hp hl
  cases hd : isDigitB s[p].toNat with
  | true =>
   have hD := isDigit_at s p true h0 hp hd
   have hT := tokRes_num s p hp hl hd
   have hN := fun w => readNumber_at s p w hm
   clear hl hd
   by_cases hbig : valOf ((s.extract p s.size).data.toList.take (digLen (s.extract p s.size).data.toList)) > maxNumber
   ·have e1 : numRes (s.extract p s.size) p = .tuple #[.agg #[.int .i64 0, .string ⟨#[]⟩, .int .i64 0, .int .i64 0], .int .i64 3] := by unfold numRes; rw [if_pos hbig]; rfl
    rw [hT]
    rw [e1] at hN ⊢
    clear hT e1 hbig
    go_enter Tryz.func118, Tryz.ntmps118
    go_wp2_with (first | (go_at_call 137; refine (hL _).mono ?_; rintro e w' ⟨rfl, rfl⟩) | (go_at_call 139; refine (hD _).mono ?_; rintro e w' ⟨rfl, rfl⟩) | (go_at_call 140; refine (hN _).mono ?_; rintro e w' ⟨rfl, hb⟩; obtain ⟨hc, hf⟩ := bcell hb))
    refine bodyPost_ret (v := .tuple #[.agg #[.int .i64 0, .string ⟨#[]⟩, .int .i64 0, .int .i64 0], .int .i64 3]) (by simp [results, Tryz.results118, go_sem, hc]) rfl ⟨rfl, ?_⟩
    exact (((((((Below.refl _ _).alloc (Nat.le_refl _) _).trans (hb.mono (by simp))).setCell (by simp) _).setCell (by simp) _).setCell (by simp) _).setCell (by simp) _)
   ·have e1 : numRes (s.extract p s.size) p = .tuple #[.agg #[.int .i64 2, .string ((s.extract p s.size).extract 0 (digLen (s.extract p s.size).data.toList)), .int .i64 (valOf ((s.extract p s.size).data.toList.take (digLen (s.extract p s.size).data.toList))), .int .i64 p], .int .i64 0] := by unfold numRes; rw [if_neg hbig]; rfl
    rw [hT]
    rw [e1] at hN ⊢
    clear hT e1 hbig
    generalize (s.extract p s.size).extract 0 (digLen (s.extract p s.size).data.toList) = tx at *
    generalize valOf ((s.extract p s.size).data.toList.take (digLen (s.extract p s.size).data.toList)) = vv at *
    go_enter Tryz.func118, Tryz.ntmps118
    go_wp2_with (first | (go_at_call 137; refine (hL _).mono ?_; rintro e w' ⟨rfl, rfl⟩) | (go_at_call 139; refine (hD _).mono ?_; rintro e w' ⟨rfl, rfl⟩) | (go_at_call 140; refine (hN _).mono ?_; rintro e w' ⟨rfl, hb⟩; obtain ⟨hc, hf⟩ := bcell hb))
    refine bodyPost_ret (v := .tuple #[.agg #[.int .i64 2, .string tx, .int .i64 vv, .int .i64 p], .int .i64 0]) (by simp [results, Tryz.results118, go_sem, hc]) rfl ⟨rfl, ?_⟩
    exact (((((((Below.refl _ _).alloc (Nat.le_refl _) _).trans (hb.mono (by simp))).setCell (by simp) _).setCell (by simp) _).setCell (by simp) _).setCell (by simp) _)
  | false =>
   have hD := isDigit_at s p false h0 hp hd
   have hS := fun w => signSize_at s p w hp
   have hle : signAt s p <= (s.extract p s.size).size := by
    have := signSz_le (s.data.toList.drop p)
    rw [List.length_drop, len_toList] at this
    rw [extract_size]; exact this
   have hle' : (signAt s p : Int) <= (s.size : Int) - p := by rw [extract_size] at hle; omega
   by_cases hz0 : signAt s p = 0
   ·have hT := tokRes_bad s p hp hl hd hz0
    rw [hT, zeroTok]
    rw [hz0] at hS
    clear hT hl hd hle hle'
    go_enter Tryz.func118, Tryz.ntmps118
    go_wp2_with (first | (go_at_call 137; refine (hL _).mono ?_; rintro e w' ⟨rfl, rfl⟩) | (go_at_call 139; refine (hD _).mono ?_; rintro e w' ⟨rfl, rfl⟩) | (go_at_call 141; refine (hS _).mono ?_; rintro e w' ⟨rfl, rfl⟩))
    refine bodyPost_ret (v := .tuple #[.agg #[.int .i64 0, .string ⟨#[]⟩, .int .i64 0, .int .i64 0], .int .i64 2]) (by simp [results, Tryz.results118, go_sem]) rfl ⟨rfl, ?_⟩
    exact (Below.refl _ _).alloc (Nat.le_refl _) _
   ·have HT : Hid (tokRes s p = .tuple #[.agg #[.int .i64 3, .string ((s.extract p s.size).extract 0 (signAt s p)), .int .i64 0, .int .i64 p], .int .i64 0]) := tokRes_sign s p hp hl hd _ rfl hz0
    have hz1 : ((signAt s p : Int) == 0) = false := by simp; omega
    clear hl hd
    generalize signAt s p = n at *
    go_enter Tryz.func118, Tryz.ntmps118
    go_wp2_with (first | (go_at_call 137; refine (hL _).mono ?_; rintro e w' ⟨rfl, rfl⟩) | (go_at_call 139; refine (hD _).mono ?_; rintro e w' ⟨rfl, rfl⟩) | (go_at_call 141; refine (hS _).mono ?_; rintro e w' ⟨rfl, rfl⟩))
    refine bodyPost_ret (v := .tuple #[.agg #[.int .i64 3, .string ((s.extract p s.size).extract 0 n), .int .i64 0, .int .i64 p], .int .i64 0]) (by simp [results, Tryz.results118, go_sem]) rfl ⟨by rw [HT.out], ?_⟩
    exact (Below.refl _ _).alloc (Nat.le_refl _) _
theorem Tryz.infoTok : (Tryz.prog.info? 191).map (fun i => (i.zero, i.size, i.bytes)) = some (some (.agg #[.int .i64 0, .string ByteArray.empty, .int .i64 0, .int .i64 0]), 4, 40) := by kernel_rfl
def tokC (t : Tok) : List Value := [.int .i64 t.kind.p, .string t.text, .int .i64 t.val, .int .i64 t.pos]
def toksC (ts : List Tok) : List Value := ts.flatMap tokC
theorem toksC_snoc (ts : List Tok) (t : Tok) : toksC (ts ++ [t]) = toksC ts ++ tokC t := by
 simp [toksC]
theorem cell_four_new (w : World) (a b c d : Value) (t : TypeId) : ∀ j u, [a, b, c, d][j]? = some u -> (w.alloc (.cells #[a, b, c, d] t)).cell? ((⟨w.heap.size, 0, none⟩ : Addr).add j) = some u := by
 intro j u hj
 match j, hj with
 | 0, hj => simp at hj; subst hj; simp [Addr.add]
 | 1, hj => simp at hj; subst hj; simp [Addr.add]
 | 2, hj => simp at hj; subst hj; simp [Addr.add]
 | 3, hj => simp at hj; subst hj; simp [Addr.add]
 | j + 4, hj => simp at hj
theorem cell_four_new2 (w : World) (o : Obj) (a b c d : Value) (t : TypeId) : ∀ j u, [a, b, c, d][j]? = some u -> ((w.alloc o).alloc (.cells #[a, b, c, d] t)).cell? ((⟨w.heap.size + 1, 0, none⟩ : Addr).add j) = some u := by
 have h := cell_four_new (w.alloc o) a b c d t
 rw [show (w.alloc o).heap.size = w.heap.size + 1 from by simp] at h
 exact h
def TokPost (s : ByteArray) (w : World) (e : Ending) (w' : World) : Prop :=
 Below w.heap.size w w' /\
 ((∃ c q, lexAll s.data.toList = .error (c, q) /\ e = .returned (.tuple #[.slice none 0 0, .int .i64 c, .int .i64 q])) ∨
  (∃ ts v, lexAll s.data.toList = .ok ts /\ e = .returned (.tuple #[v, .int .i64 0, .int .i64 0]) /\ w'.ownsRow w.heap.size 191 4 v ts.length (toksC ts)))
def lexGo (s : ByteArray) (ts : List Tok) (q : Nat) : Except (Nat × Nat) (List Tok) :=
 match lexAt s.data.toList q with | .error e => .error e | .ok r => .ok (ts ++ r)
theorem lexGo_start (s : ByteArray) : lexGo s [] (gap s.data.toList 0) = lexAll s.data.toList := by
 unfold lexGo lexAll; split <;> simp_all
theorem lexGo_end (s : ByteArray) (ts : List Tok) (q : Nat) (h : ¬ q < s.size) : lexGo s ts q = .ok (ts ++ [overTok s.data.toList]) := by
 unfold lexGo; rw [lexAt_end (by exact h)]
theorem lexGo_bad (s : ByteArray) (ts : List Tok) (q c : Nat) (h : q < s.size) (hx : lex1 (s.data.toList.drop q) = .error c) : lexGo s ts q = .error (c, q) := by
 unfold lexGo; rw [lexAt_bad (by exact h) hx]
theorem lexGo_ok (s : ByteArray) (ts : List Tok) (q : Nat) (x : TK × Nat × Nat) (h : q < s.size) (hx : lex1 (s.data.toList.drop q) = .ok x) :
  lexGo s (ts ++ [mkTok s.data.toList q x]) (gap s.data.toList (q + x.2.1)) = lexGo s ts q := by
 unfold lexGo; rw [lexAt_ok (by exact h) hx]
 split <;> simp_all
theorem code_nz {l : List UInt8} {c : Nat} (h : lex1 l = .error c) : c = 2 ∨ c = 3 := by
 unfold lex1 at h
 split at h
 ·injection h with h; omega
 ·split at h
  ·cases h
  ·split at h
   ·split at h
    ·injection h with h; omega
    ·cases h
   ·split at h
    ·cases h
    ·split at h
     ·cases h
     ·injection h with h; omega
theorem lex1_le {l : List UInt8} {x : TK × Nat × Nat} (h : lex1 l = .ok x) : x.2.1 <= l.length := by
 unfold lex1 at h
 split at h
 ·cases h
 ·rename_i c r
  split at h
  ·injection h with h; subst h; exact (List.takeWhile_sublist _).length_le
  ·split at h
   ·split at h
    ·cases h
    ·injection h with h; subst h; exact (List.takeWhile_sublist _).length_le
   ·split at h
    ·injection h with h; subst h; simp
    ·split at h
     ·rename_i hh
      injection h with h; subst h
      cases r with
      | nil => simp at hh
      | cons d r => simp
     ·cases h
theorem mkTok_size (s : ByteArray) (q : Nat) (x : TK × Nat × Nat) (hx : lex1 (s.data.toList.drop q) = .ok x) : (mkTok s.data.toList q x).text.size = x.2.1 := by
 have := lex1_le hx
 show ((s.data.toList.drop q).take x.2.1).toArray.size = _
 rw [List.size_toArray, List.length_take]; omega
theorem owns_below {w w' : World} {base : Nat} {e : TypeId} {size : Nat} {v : Value} {n : Nat} {xs : List Value} (h : w.ownsRow base e size v n xs) (hb : Below w.heap.size w w') : w'.ownsRow base e size v n xs := by
 have hlt := h.lt
 obtain ⟨h1, h2⟩ := h
 refine ⟨h1, ?_⟩
 rcases h2 with h2 | ⟨g, cap, cur, hv, hg, hh, r⟩
 ·exact .inl h2
 ·exact .inr ⟨g, cap, cur, hv, hg, by rw [hb.block g (hlt g (by rw [hv]; rfl)).2]; exact hh, r⟩
theorem tokens_any (s : ByteArray) (w : World) (hm : s.size <= 600) :
  Calls Tryz.prog 85 #[.string s] w fun e w' => TokPost s w e w' := by
 obtain ⟨i0, hi, hz0, hz1, hz2⟩ := info_parts Tryz.infoTok
 have hg0 : gap s.data.toList 0 <= s.size := gap_le (Nat.zero_le _)
 go_enter Tryz.func85, Tryz.ntmps85
 go_wp2_with (go_at_call 117; refine (skipGap_any s 0 _ (Nat.zero_le _) hm).mono ?_; rintro e w1 ⟨rfl, h1⟩; obtain rfl := h1.symm)
 go_loopw [5, 6] (fun v t wr => ∃ (ts : List Tok) (q : Nat), q <= s.size /\ t = .int .i64 q /\ wr.ownsRow w.heap.size 191 4 v ts.length (toksC ts) /\ Below w.heap.size w wr /\ Hid (lexGo s ts q = lexAll s.data.toList) /\ ts.length <= q) (fun _ t _ => s.size - (intOf t).toNat)
 case atStart => exact ⟨[], gap s.data.toList 0, hg0, rfl, World.ownsRow_nil _ _ _ _, Below.refl _ _, lexGo_start s, by simp⟩
 case round =>
  obtain ⟨ts, q, hq, rfl, hown, hbw, HL, hlen⟩ := hrel
  have hbs := hbw.size
  by_cases hlt : q < s.size
  ·cases hx : lex1 (s.data.toList.drop q) with
   | error c =>
    have hT : tokRes s q = .tuple #[.agg #[.int .i64 0, .string ⟨#[]⟩, .int .i64 0, .int .i64 0], .int .i64 c] := by unfold tokRes; rw [hx]; rfl
    have hc0 := code_nz hx
    have HB : Hid (lexAll s.data.toList = .error (c, q)) := by show _ = _; rw [<- HL.out]; exact lexGo_bad s ts q c hlt hx
    have hR := fun w => readToken_any s q w hlt hm
    rw [hT] at hR
    clear hT hx hown HL
    have hc1 : ((c : Int) != 0) = true := by simp; omega
    clear hc0
    go_wp2_with (go_at_call 118; refine (hR _).mono ?_; rintro e w1 ⟨rfl, hb⟩)
    go_ret3
    have hbs1 := hb.size
    exact ⟨(hbw.trans (hb.mono hbs)).alloc (by omega) _, .inl ⟨c, q, HB.out, rfl⟩⟩
   | ok x =>
    have hT : tokRes s q = .tuple #[.agg #[.int .i64 (mkTok s.data.toList q x).kind.p, .string (mkTok s.data.toList q x).text, .int .i64 (mkTok s.data.toList q x).val, .int .i64 (mkTok s.data.toList q x).pos], .int .i64 0] := by unfold tokRes; rw [hx]; rfl
    have HK : Hid (lexGo s (ts ++ [mkTok s.data.toList q x]) (gap s.data.toList (q + x.2.1)) = lexAll s.data.toList) := by show _ = _; rw [<- HL.out]; exact lexGo_ok s ts q x hlt hx
    have hR := fun w => readToken_any s q w hlt hm
    have hsz := mkTok_size s q x hx
    have hle : q + x.2.1 <= s.size := by have := lex1_le hx; rw [List.length_drop, len_toList] at this; omega
    have hge := lex1_pos (k := x.1) (n := x.2.1) (v := x.2.2) hx
    have hS := fun w => skipGap_any s (q + x.2.1) w hle hm
    have hgl : gap s.data.toList (q + x.2.1) <= s.size := gap_le hle
    have hgg := gap_ge s.data.toList (q + x.2.1)
    rw [hT] at hR
    clear hT hx HL
    generalize gap s.data.toList (q + x.2.1) = q2 at *
    generalize mkTok s.data.toList q x = tk at *
    generalize x.2.1 = n at *
    have hsz' : (tk.text.size : Int) = n := by omega
    clear hsz
    go_wp2_with (first
     | (go_at_call 118; refine (hR _).mono ?_; rintro e w1 ⟨rfl, hb⟩)
     | (at_builtin; refine wpList_append_own _ rfl _ _ 154 rfl w.heap.size 191 i0 _ 4 40 Tryz.underlying154 hi hz0 hz1 hz2 rfl (by decide) _ _ _ rfl (((owns_below hown hb).alloc _).alloc _) ⟨_, 0, none⟩ 1 1 (tokC tk) rfl rfl (cell_four_new2 _ _ _ _ _ _ _) ?h1 ?h63 ?hby ?hbase ?hh
        case h1 => intro u hu; simp [tokC] at hu; rcases hu with rfl | rfl | rfl | rfl <;> rfl
        case h63 => unfold maxLen; omega
        case hby => omega
        case hbase => have := hb.size; simp; omega
        intro v' w3 hown' hgrow3 hnil3
        have hc3 : w3.cell? ⟨w1.heap.size, 1, none⟩ = some (.string tk.text) := hgrow3.cell (by simp) (fun h => by have := ((owns_below hown hb).lt _ h.symm).2; simp at this)
        have hs3 : w1.heap.size + 2 <= w3.heap.size := by have := hgrow3.size; simp at this; omega
        have hb3 : Below w.heap.size w w3 := Below.grown (((hbw.trans (hb.mono hbs)).alloc (by have := hb.size; omega) _).alloc (by have := hb.size; simp; omega) _) hgrow3 (by have := hb.size; simp; omega) (fun k hk => ((owns_below hown hb).lt _ hk).1)
        have X : Aside (w3.ownsRow w.heap.size 191 4 v' (ts.length + 1) (toksC ts ++ tokC tk) /\ Below w.heap.size w w3) := ⟨hown', hb3⟩
        clear hown' hgrow3 hnil3 hb3)
     | (go_at_call 117; refine (hS _).mono ?_; rintro e w4 ⟨rfl, h1⟩; obtain rfl := h1.symm))
    go_roundw
    case rel => exact ⟨ts ++ [tk], q2, hgl, rfl, by rw [toksC_snoc, List.length_append]; exact X.out.1, X.out.2, HK, by rw [List.length_append]; simp; omega⟩
    case measure => simp [intOf]; omega
  ·have HE : Hid (lexAll s.data.toList = .ok (ts ++ [overTok s.data.toList])) := by show _ = _; rw [<- HL.out]; exact lexGo_end s ts q hlt
   clear HL
   go_wp2_with (first
     | (at_builtin; refine wpList_append_own _ rfl _ _ 154 rfl w.heap.size 191 i0 _ 4 40 Tryz.underlying154 hi hz0 hz1 hz2 rfl (by decide) _ _ _ rfl (hown.alloc _) ⟨_, 0, none⟩ 1 1 [.int .i64 0, .string ⟨#[]⟩, .int .i64 0, .int .i64 s.size] rfl rfl (cell_four_new _ _ _ _ _ _) ?g1 ?g63 ?gby ?gbase ?gh
        case g1 => intro u hu; simp at hu; rcases hu with rfl | rfl | rfl | rfl <;> rfl
        case g63 => unfold maxLen; omega
        case gby => omega
        case gbase => simp; omega
        intro v' w3 hown' hgrow3 hnil3
        have hb3 : Below w.heap.size w w3 := Below.grown (hbw.alloc hbs _) hgrow3 (by simp; omega) (fun k hk => (hown.lt _ hk).1)
        have X : Aside (w3.ownsRow w.heap.size 191 4 v' (ts.length + 1) (toksC ts ++ [.int .i64 0, .string ⟨#[]⟩, .int .i64 0, .int .i64 s.size]) /\ Below w.heap.size w w3) := ⟨hown', hb3⟩
        clear hown' hgrow3 hnil3 hb3))
   go_ret3
   exact ⟨X.out.2, .inr ⟨_, _, HE.out, rfl, by rw [toksC_snoc, List.length_append]; exact X.out.1⟩⟩
end Go.Proofs.YtklobognaldjpaaGreat
