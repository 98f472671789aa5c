/- The reference's tokens: bytes, gaps, numbers. The reference's tokens: what may stand between them. -/
import Derived.Test.YtklobognaldjpaaGreatCScan5
import Derived.Test.YtklobognaldjpaaGreatCParse5
namespace Go.Proofs.YtklobognaldjpaaGreat
open Go.RowKit

set_option maxHeartbeats 400000 in
theorem refLetter_any (c : Int) (w : World) :
    Calls Tryz.prog 89 #[.int .u8 c] w fun e w' => e = .returned (.bool (isLetterB c)) ∧ w' = w := by
  by_cases h1 : 97 ≤ c
  · by_cases h2 : c ≤ 122
    · have hb : isLetterB c = true := by simp [isLetterB, h1, h2]
      rw [hb]; clear hb
      go_enter Tryz.func89, Tryz.ntmps89
      go_wp2
      go_ret
      exact ⟨rfl, rfl⟩
    · have hb : isLetterB c = false := by simp [isLetterB, h2]
      rw [hb]; clear hb
      go_enter Tryz.func89, Tryz.ntmps89
      go_wp2
      go_ret
      exact ⟨rfl, rfl⟩
  · have hb : isLetterB c = false := by simp [isLetterB, h1]
    rw [hb]; clear hb
    go_enter Tryz.func89, Tryz.ntmps89
    go_wp2
    go_ret
    exact ⟨rfl, rfl⟩

set_option maxHeartbeats 400000 in
theorem refDigit_any (c : Int) (w : World) :
    Calls Tryz.prog 90 #[.int .u8 c] w fun e w' => e = .returned (.bool (isDigitB c)) ∧ w' = w := by
  by_cases h1 : 48 ≤ c
  · by_cases h2 : c ≤ 57
    · have hb : isDigitB c = true := by simp [isDigitB, h1, h2]
      rw [hb]; clear hb
      go_enter Tryz.func90, Tryz.ntmps90
      go_wp2
      go_ret
      exact ⟨rfl, rfl⟩
    · have hb : isDigitB c = false := by simp [isDigitB, h2]
      rw [hb]; clear hb
      go_enter Tryz.func90, Tryz.ntmps90
      go_wp2
      go_ret
      exact ⟨rfl, rfl⟩
  · have hb : isDigitB c = false := by simp [isDigitB, h1]
    rw [hb]; clear hb
    go_enter Tryz.func90, Tryz.ntmps90
    go_wp2
    go_ret
    exact ⟨rfl, rfl⟩

/-- Does a text stand among some? -/
def amongB (x : ByteArray) (fs : List ByteArray) : Bool := fs.any fun f => f.toList == x.toList

set_option maxHeartbeats 1000000 in
theorem among_any (b c : Nat) (fs : List ByteArray) (x : ByteArray) (w : World) (hbig : fs.length ≤ 600) (hc : StrsAt w b fs) :
    Calls Tryz.prog 91 #[.string x, .slice (some ⟨b, 0, none⟩) fs.length c] w fun e w' => e = .returned (.bool (amongB x fs)) ∧ w' = w := by
  go_enter Tryz.func91, Tryz.ntmps91
  go_wp2
  go_loop [5] (fun i => ∃ k : Nat, k ≤ fs.length ∧ i = .int .i64 k ∧ ∀ f ∈ fs.take k, (f.toList == x.toList) = false) (fun i => fs.length - (intOf i).toNat)
  case atStart => exact ⟨0, Nat.zero_le _, rfl, fun f hf => by simp at hf⟩
  case round =>
    obtain ⟨k, hk, rfl, hne⟩ := hrel
    have HN : Hid (∀ f ∈ fs.take k, (f.toList == x.toList) = false) := hne
    clear hne
    by_cases hlt : k < fs.length
    · have hcell : w.cell? ⟨b, k, none⟩ = some (.string fs[k]) := hc k fs[k] (List.getElem?_eq_getElem hlt)
      have HT : Hid (fs.take (k + 1) = fs.take k ++ [fs[k]]) := List.take_succ_eq_append_getElem hlt
      have HM : Hid (fs[k] ∈ fs) := List.getElem_mem hlt
      clear hc
      generalize fs[k] = fk at *
      cases he : (fk.toList == x.toList) with
      | true =>
        have HB : Hid (amongB x fs = true) := by show _ = _; unfold amongB; rw [List.any_eq_true]; exact ⟨fk, HM.out, he⟩
        go_wp2
        go_ret
        exact ⟨by rw [HB.out]; rfl, rfl⟩
      | false =>
        have HF : Hid ((fk.toList == x.toList) = false) := he
        go_wp2
        go_round
        case rel => exact ⟨k + 1, by omega, by go_num, fun f hf => by
          rw [HT.out, List.mem_append] at hf
          rcases hf with hf | hf
          · exact HN.out f hf
          · simp at hf; subst hf; exact HF.out⟩
        case measure => simp [intOf]; omega
    · have HB : Hid (amongB x fs = false) := by
        show _ = _; unfold amongB
        rw [List.any_eq_false]
        intro f hf
        have := HN.out f (by rw [List.take_of_length_le (by omega)]; exact hf)
        simp [this]
      go_wp2
      go_ret
      exact ⟨by rw [HB.out]; rfl, rfl⟩

/-- A number's value, with a lid. -/
def valLid (l : List UInt8) : Nat := min (valOf l) 2147483648

theorem valLid_snoc (l : List UInt8) (c : UInt8) : valLid (l ++ [c]) = min (10 * valLid l + (c.toNat - 48)) 2147483648 := by
  unfold valLid; rw [valOf_snoc]; omega

set_option maxHeartbeats 400000 in
theorem refValue_any (s : ByteArray) (w : World) (hm : s.size ≤ 600) (hd : ∀ j (h : j < s.size), isDigitB s[j].toNat = true) :
    Calls Tryz.prog 93 #[.string s] w fun e w' => e = .returned (.int .i64 (valLid s.data.toList)) ∧ w' = w := by
  go_enter Tryz.func93, Tryz.ntmps93
  go_wp2
  go_loop [3, 4] (fun n i => ∃ k v : Nat, k ≤ s.size ∧ v ≤ 2147483648 ∧ i = .int .i64 k ∧ n = .int .i64 v ∧ v = valLid (s.data.toList.take k)) (fun _ i => s.size - (intOf i).toNat)
  case atStart => exact ⟨0, 0, Nat.zero_le _, by omega, rfl, rfl, rfl⟩
  case round =>
    obtain ⟨k, v, hk, hv, rfl, rfl, hval⟩ := hrel
    have HV : Hid (v = valLid (s.data.toList.take k)) := hval
    clear hval
    by_cases hlt : k < s.size
    · have hb := (isDigitB_iff _).1 (hd k hlt)
      obtain ⟨hb1, hb2⟩ := hb
      have HN : Hid (valLid (s.data.toList.take (k + 1)) = min (10 * v + (s[k].toNat - 48)) 2147483648) := by
        show _ = _
        rw [take_snoc' s k hlt, valLid_snoc, HV.out]
      clear hd
      go_wp2
      all_goals go_round
      case rel => exact ⟨k + 1, min (10 * v + (s[k].toNat - 48)) 2147483648, by omega, by omega, by go_num, by congr 1; omega, HN.out.symm⟩
      case measure => simp [intOf]; omega
    · go_wp2
      go_ret
      refine ⟨ret_int ?_, rfl⟩
      rw [HV.out, List.take_of_length_le (by rw [len_toList]; omega)]

end Go.Proofs.YtklobognaldjpaaGreat

namespace Go.Proofs.YtklobognaldjpaaGreat
open Go.RowKit

theorem ix_at : ∀ (l : List UInt8) (c : UInt8) (n : Nat), l[n]? = some c → (∀ i, i < n → l[i]? ≠ some c) → Lib.indexByte l c = n
  | [], c, n, h, _ => by simp at h
  | a :: l, c, 0, h, _ => by simp at h; subst h; simp [Lib.indexByte]
  | a :: l, c, n + 1, h, hn => by
    have ha : a ≠ c := fun e => hn 0 (by omega) (by simp [e])
    have ih := ix_at l c n (by simpa using h) (fun i hi => by have := hn (i + 1) (by omega); simpa using this)
    simp only [Lib.indexByte]
    rw [if_neg (by simpa using ha), ih, if_neg (by simp)]
    omega

theorem ix_none : ∀ (l : List UInt8) (c : UInt8), (∀ i : Nat, l[i]? ≠ some c) → Lib.indexByte l c = -1
  | [], c, _ => rfl
  | a :: l, c, hn => by
    have ha : a ≠ c := fun e => hn 0 (by simp [e])
    have ih := ix_none l c (fun i => by have := hn (i + 1); simpa using this)
    simp only [Lib.indexByte]
    rw [if_neg (by simpa using ha), ih]; rfl

theorem drop_get (s : ByteArray) (p i : Nat) : (s.data.toList.drop p)[i]? = s.data.toList[p + i]? := List.getElem?_drop

theorem get_byte (s : ByteArray) (i : Nat) (h : i < s.size) : s.data.toList[i]? = some s[i] := List.getElem?_eq_getElem (by exact h)

theorem gapSz_at (s : ByteArray) (k : Nat) (h : k < s.size) : gapSz (s.data.toList.drop k) = if s[k].toNat = 32 ∨ s[k].toNat = 10 then 1 else if s[k].toNat = 123 then (Lib.indexByte (s.data.toList.drop k) 125 + 1).toNat else 0 := by
  obtain ⟨t, ht⟩ := drop_head s k h
  rw [ht]
  simp only [gapSz, byte_iff]
  rfl

/-- A note from k on that ends at j. -/
theorem gapSz_note (s : ByteArray) (k j : Nat) (h : k < s.size) (h1 : s[k].toNat = 123) (hj : j < s.size) (hkj : k ≤ j) (h2 : s[j].toNat = 125) (hn : ∀ i (hi : i < s.size), k ≤ i → i < j → s[i].toNat ≠ 125) : gapSz (s.data.toList.drop k) = j - k + 1 := by
  have := ix_at (s.data.toList.drop k) 125 (j - k) (by
    rw [drop_get, show k + (j - k) = j by omega, get_byte s j hj]
    congr 1; exact (byte_iff _ _).2 h2) (fun i hi => by
    rw [drop_get, get_byte s (k + i) (by omega)]
    intro e
    injection e with e
    exact hn (k + i) (by omega) (by omega) (by omega) (by rw [e]; rfl))
  rw [gapSz_at s k h, this, if_neg (by omega), if_pos h1]
  omega

theorem gapSz_open (s : ByteArray) (k : Nat) (h : k < s.size) (h1 : s[k].toNat = 123) (hn : ∀ i (hi : i < s.size), k ≤ i → s[i].toNat ≠ 125) : gapSz (s.data.toList.drop k) = 0 := by
  have := ix_none (s.data.toList.drop k) 125 (fun i => by
    rw [drop_get]
    by_cases hi : k + i < s.size
    · rw [get_byte s (k + i) hi]
      intro e
      injection e with e
      exact hn (k + i) hi (by omega) (by rw [e]; rfl)
    · rw [List.getElem?_eq_none (by rw [len_toList]; omega)]; simp)
  rw [gapSz_at s k h, this, if_neg (by omega), if_pos h1]
  rfl

/-- What skip answers. -/
def skipV (s : ByteArray) (p : Nat) : Value :=
  if h : gap s.data.toList p < s.size then (if (s[gap s.data.toList p]'h).toNat = 123 then .tuple #[.int .i64 (-1), .int .i64 (gap s.data.toList p)] else .tuple #[.int .i64 (gap s.data.toList p), .int .i64 0])
  else .tuple #[.int .i64 (gap s.data.toList p), .int .i64 0]

theorem skipV_stop (s : ByteArray) (p k : Nat) (hg : gap s.data.toList k = gap s.data.toList p) (hz : k < s.size → gapSz (s.data.toList.drop k) = 0) : gap s.data.toList p = k := by
  rw [← hg]
  by_cases h : k < s.size
  · exact gap_zero (hz h)
  · exact gap_over (by rw [len_toList]; exact h)

set_option maxHeartbeats 1000000 in
theorem skip_any (s : ByteArray) (p : Nat) (w : World) (hp : p ≤ s.size) (hm : s.size ≤ 600) :
    Calls Tryz.prog 88 #[.string s, .int .i64 p] w fun e w' => e = .returned (skipV s p) ∧ w' = w := by
  go_enter Tryz.func88, Tryz.ntmps88
  go_wp2
  go_loop [1, 4, 5, 6] (fun t _ _ _ => ∃ k : Nat, k ≤ s.size ∧ t = .int .i64 k ∧ gap s.data.toList k = gap s.data.toList p) (fun t _ _ _ => s.size - (intOf t).toNat)
  case atStart => exact ⟨p, hp, rfl, rfl⟩
  case round =>
    obtain ⟨k, hk, rfl, hg⟩ := hrel
    have HK : Hid (gap s.data.toList k = gap s.data.toList p) := hg
    clear hg
    by_cases hlt : k < s.size
    · have HG : Hid (gapSz (s.data.toList.drop k) = if s[k].toNat = 32 ∨ s[k].toNat = 10 then 1 else if s[k].toNat = 123 then (Lib.indexByte (s.data.toList.drop k) 125 + 1).toNat else 0) := gapSz_at s k hlt
      by_cases hb : s[k].toNat = 32 ∨ s[k].toNat = 10
      · have HS : Hid (gap s.data.toList (k + 1) = gap s.data.toList p) := by
          show _ = _
          have hz : gapSz (s.data.toList.drop k) = 1 := by rw [HG.out, if_pos hb]
          rw [← HK.out, gap_step hlt (by omega), hz]
        have hb' : ((s[k].toNat : Int) == 32) = true ∨ ((s[k].toNat : Int) == 32) = false ∧ ((s[k].toNat : Int) == 10) = true := by
          rcases hb with hb | hb
          · exact .inl (by simp; omega)
          · exact .inr ⟨by simp; omega, by simp; omega⟩
        clear hb HG HK
        rcases hb' with hb | ⟨hb, hb2⟩
        · go_wp2
          go_round
          case rel => exact ⟨k + 1, by omega, by go_num, HS.out⟩
          case measure => simp [intOf]; omega
        · go_wp2
          go_round
          case rel => exact ⟨k + 1, by omega, by go_num, HS.out⟩
          case measure => simp [intOf]; omega
      · have hb1 : ((s[k].toNat : Int) == 32) = false := by simp; omega
        have hb2 : ((s[k].toNat : Int) == 10) = false := by simp; omega
        by_cases hn : s[k].toNat = 123
        · have hb3 : ((s[k].toNat : Int) == 123) = true := by simp; omega
          have HB3 : Hid (s[k].toNat = 123) := hn
          clear hb hn HG
          go_wp2
          go_loop [1] (fun t => ∃ j : Nat, k ≤ j ∧ j ≤ s.size ∧ t = .int .i64 j ∧ ∀ i (hi : i < s.size), k ≤ i → i < j → s[i].toNat ≠ 125) (fun t => s.size - (intOf t).toNat)
          case atStart => exact ⟨k, Nat.le_refl _, hk, rfl, fun i hi h1 h2 => by omega⟩
          case round =>
            obtain ⟨j, hkj, hj, rfl, hnone⟩ := hrel
            have HN : Hid (∀ i (hi : i < s.size), k ≤ i → i < j → s[i].toNat ≠ 125) := hnone
            clear hnone
            by_cases hjl : j < s.size
            · by_cases he : s[j].toNat = 125
              · have hc : ((s[j].toNat : Int) != 125) = false := by simp; omega
                have HS : Hid (gap s.data.toList (j + 1) = gap s.data.toList p) := by
                  show _ = _
                  have hz := gapSz_note s k j hlt HB3.out hjl hkj he HN.out
                  rw [← HK.out, gap_step hlt (by omega), hz]; congr 1; omega
                have hje : ((j : Int) == s.size) = false := by simp; omega
                clear he
                go_wp2
                go_round
                case rel => exact ⟨j + 1, by omega, by go_num, HS.out⟩
                case measure => simp [intOf]; omega
              · have hc : ((s[j].toNat : Int) != 125) = true := by simp; omega
                have HC : Hid (s[j].toNat ≠ 125) := he
                clear he
                go_wp2
                go_round
                case rel => exact ⟨j + 1, by omega, by omega, by go_num, fun i hi h1 h2 => by
                  by_cases e : i = j
                  · subst e; exact HC.out
                  · exact HN.out i hi h1 (by omega)⟩
                case measure => simp [intOf]; omega
            · have hje : ((j : Int) == s.size) = true := by simp; omega
              have HQ : Hid (skipV s p = .tuple #[.int .i64 (-1), .int .i64 k]) := by
                show _ = _
                have hz := gapSz_open s k hlt HB3.out (fun i hi h1 => HN.out i hi h1 (by omega))
                have hq := skipV_stop s p k HK.out (fun _ => hz)
                unfold skipV
                simp only [hq, dif_pos hlt, HB3.out, if_true]
              go_wp2
              go_ret2
              exact ⟨by rw [HQ.out]; rfl, rfl⟩
        · have hb3 : ((s[k].toNat : Int) == 123) = false := by simp; omega
          have HQ : Hid (skipV s p = .tuple #[.int .i64 k, .int .i64 0]) := by
            show _ = _
            have hz : gapSz (s.data.toList.drop k) = 0 := by rw [HG.out, if_neg hb, if_neg hn]
            have hq := skipV_stop s p k HK.out (fun _ => hz)
            unfold skipV
            simp only [hq, dif_pos hlt, if_neg hn]
          clear hb hn
          go_wp2
          go_ret2
          exact ⟨by rw [HQ.out]; rfl, rfl⟩
    · have HQ : Hid (skipV s p = .tuple #[.int .i64 k, .int .i64 0]) := by
        show _ = _
        have hq := skipV_stop s p k HK.out (fun h => absurd h hlt)
        unfold skipV
        simp only [hq, dif_neg hlt]
      go_wp2
      go_ret2
      exact ⟨by rw [HQ.out]; rfl, rfl⟩

end Go.Proofs.YtklobognaldjpaaGreat
