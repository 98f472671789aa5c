/- The reference's tokens: words and numbers. -/
import Derived.Test.YtklobognaldjpaaGreatCRefTok2
namespace Go.Proofs.YtklobognaldjpaaGreat
open Go.RowKit

theorem strs_new (w : World) (fs : List ByteArray) (t : TypeId) : StrsAt (w.alloc (.cells (fs.map Value.string).toArray t)) w.heap.size fs := by
  intro j f hj
  rw [World.cell?_alloc_new]
  simp [hj]

def kwBs : List ByteArray := [⟨#[118, 97, 114]⟩, ⟨#[112, 114, 111, 99]⟩, ⟨#[102, 117, 110, 99]⟩, ⟨#[98, 101, 103, 105, 110]⟩, ⟨#[101, 110, 100]⟩, ⟨#[105, 102]⟩, ⟨#[116, 104, 101, 110]⟩, ⟨#[101, 108, 115, 101]⟩, ⟨#[119, 104, 105, 108, 101]⟩, ⟨#[100, 111]⟩, ⟨#[119, 114, 105, 116, 101]⟩, ⟨#[114, 101, 97, 100]⟩, ⟨#[97, 110, 100]⟩, ⟨#[111, 114]⟩, ⟨#[110, 111, 116]⟩]

theorem kwBs_eq : kwBs = keywords.map bs := rfl

theorem amongB_map (x : ByteArray) (ls : List (List UInt8)) : amongB x (ls.map bs) = ls.contains x.data.toList := by
  induction ls with
  | nil => rfl
  | cons a l ih =>
    have e : amongB x ((a :: l).map bs) = ((bs a).toList == x.toList || amongB x (l.map bs)) := rfl
    rw [e, ih, List.contains_cons, Lib.toList_data, Lib.toList_data]
    congr 1
    show (a == x.data.toList) = _
    rw [Bool.eq_iff_iff]
    simp only [beq_iff_eq]
    exact eq_comm

def contB (f : Bool) (c : Int) : Bool := isDigitB c || (isLetterB c && f)

/-- The text so far of a word that begins at p. -/
def soFar (s : ByteArray) (p k : Nat) : ByteArray := if k = p then ⟨#[]⟩ else s.extract p k

/-- The first place from p on at which a word or a number does not go on. -/
def runEnd (s : ByteArray) (p : Nat) (f : Bool) : Nat := p + ((s.data.toList.drop p).takeWhile fun c => contB f c.toNat).length

theorem runEnd_eq (s : ByteArray) (p k : Nat) (f : Bool) (hpk : p ≤ k) (hk : k ≤ s.size) (h1 : ∀ j (h : j < s.size), p ≤ j → j < k → contB f s[j].toNat = true) (h2 : ∀ (h : k < s.size), contB f s[k].toNat = false) : runEnd s p f = k := by
  have key := takeWhile_len (fun c : UInt8 => contB f c.toNat) (s.data.toList.drop p) (k - p) (by rw [List.length_drop, len_toList]; omega)
    (fun j hj hl => by
      rw [List.length_drop, len_toList] at hl
      have e : (s.data.toList.drop p)[j]'(by rw [List.length_drop, len_toList]; exact hl) = s[p + j]'(by omega) := by rw [List.getElem_drop]; rfl
      rw [e]; exact h1 (p + j) (by omega) (by omega) (by omega))
    (fun hl => by
      rw [List.length_drop, len_toList] at hl
      have e : (s.data.toList.drop p)[k - p]'(by rw [List.length_drop, len_toList]; exact hl) = s[p + (k - p)]'(by omega) := by rw [List.getElem_drop]; rfl
      rw [e]
      have := h2 (by omega)
      have e2 : p + (k - p) = k := by omega
      simp only [e2]; exact this)
  unfold runEnd
  rw [key]; omega

def wordKind (f : Bool) (t : ByteArray) : Int := if amongB t kwBs then 0 else if f then 1 else 2

theorem run_pos (s : ByteArray) (p k : Nat) (f : Bool) (hp : p < s.size) (hc : contB f s[p].toNat = true) (hpk : p ≤ k) (hr : ∀ (h : k < s.size), contB f s[k].toNat = false) : p < k := by
  rcases Nat.lt_or_ge p k with h | h
  · exact h
  · have e : p = k := by omega
    subst e
    rw [hr hp] at hc; cases hc

set_option maxRecDepth 100000 in
set_option maxHeartbeats 1000000 in
theorem refWord_any (s : ByteArray) (p : Nat) (f : Bool) (w : World) (hp : p < s.size) (hm : s.size ≤ 600) (hf : isLetterB s[p].toNat = f) (hc : contB f s[p].toNat = true) :
    Calls Tryz.prog 92 #[.string s, .int .i64 p] w fun e w' => e = .returned (.agg #[.int .i64 (wordKind f (s.extract p (runEnd s p f))), .int .i64 0, .int .i64 p, .string (s.extract p (runEnd s p f))]) ∧ Below w.heap.size w w' := by
  have hL : ∀ w, Calls Tryz.prog 89 #[.int .u8 (s[p].toNat : Nat)] w fun e w' => e = .returned (.bool f) ∧ w' = w := fun w => by rw [← hf]; exact refLetter_any _ _
  have HC : Hid (contB f s[p].toNat = true) := hc
  clear hc hf
  go_enter Tryz.func92, Tryz.ntmps92
  cases f with
  | true =>
    go_wp2_with (go_at_call 89; refine (hL _).mono ?_; rintro e w1 ⟨rfl, h1⟩; obtain rfl := h1.symm)
    go_loopw [7, 8, 9] (fun t _ _ wr => ∃ k : Nat, p ≤ k ∧ k ≤ s.size ∧ t = .int .i64 k ∧ (∀ j (h : j < s.size), p ≤ j → j < k → contB true s[j].toNat = true) ∧ wr = (w.alloc (.cells #[.int .i64 0, .int .i64 0, .int .i64 0, .string ⟨#[]⟩] 162)).alloc (.cells #[.int .i64 1, .int .i64 0, .int .i64 p, .string (soFar s p k)] 162)) (fun t _ _ _ => s.size - (intOf t).toNat)
    case atStart => exact ⟨p, Nat.le_refl _, by omega, rfl, fun j h h1 h2 => by omega, by simp [soFar]⟩
    case round =>
      obtain ⟨k, hpk, hk, rfl, hall, hwr⟩ := hrel
      have HA : Hid (∀ j (h : j < s.size), p ≤ j → j < k → contB true s[j].toNat = true) := hall
      subst hwr
      clear hall
      by_cases hlt : k < s.size
      · have hA' : contB true s[k].toNat = true → Hid (∀ j (h : j < s.size), p ≤ j → j < k + 1 → contB true s[j].toNat = true) := fun h0 j h h1 h2 => by
          by_cases e : j = k
          · subst e; exact h0
          · exact HA.out j h h1 (by omega)
        have HS : Hid (soFar s p (k + 1) = s.extract p (k + 1)) := by show _ = _; unfold soFar; rw [if_neg (by omega)]
        cases hd : isDigitB s[k].toNat with
        | true =>
          have HA2 := hA' (by simp [contB, hd])
          clear hA'
          go_wp2_with (first
            | (go_at_call 90; refine (refDigit_any _ _).mono ?_; rintro e w1 ⟨rfl, h1⟩; obtain rfl := h1.symm)
            | (go_at_call 89; refine (refLetter_any _ _).mono ?_; rintro e w1 ⟨rfl, h1⟩; obtain rfl := h1.symm))
          all_goals go_roundw
          case rel => exact ⟨k + 1, by omega, by omega, by go_num, HA2.out, by rw [HS.out]⟩
          case measure => simp [intOf]; omega
        | false =>
          cases hl : isLetterB s[k].toNat with
          | true =>
            have HA2 := hA' (by simp [contB, hd, hl])
            clear hA'
            go_wp2_with (first
              | (go_at_call 90; refine (refDigit_any _ _).mono ?_; rintro e w1 ⟨rfl, h1⟩; obtain rfl := h1.symm)
              | (go_at_call 89; refine (refLetter_any _ _).mono ?_; rintro e w1 ⟨rfl, h1⟩; obtain rfl := h1.symm))
            all_goals go_roundw
            case rel => exact ⟨k + 1, by omega, by omega, by go_num, HA2.out, by rw [HS.out]⟩
            case measure => simp [intOf]; omega
          | false =>
            have HR : Hid (∀ (h : k < s.size), contB true s[k].toNat = false) := fun h => by simp [contB, hd, hl]
            clear hA' HS
            have hpk' := run_pos s p k true hp HC.out hpk HR.out
            have HW : Hid (runEnd s p true = k) := runEnd_eq s p k true hpk hk HA.out HR.out
            have HT : Hid (soFar s p k = s.extract p k) := by show _ = _; unfold soFar; rw [if_neg (by omega)]
            rw [HT.out]
            cases ham : amongB (s.extract p k) kwBs with
            | true =>
              have HK : Hid (wordKind true (s.extract p k) = 0) := by show _ = _; unfold wordKind; rw [ham]; rfl
              have hAm := fun o1 o2 => among_any (w.heap.size + 2) 15 kwBs (s.extract p k) (((w.alloc o1).alloc o2).alloc (.cells (kwBs.map Value.string).toArray 9)) (by decide) (by have := strs_new ((w.alloc o1).alloc o2) kwBs 9; simpa using this)
              rw [ham] at hAm
              go_wp2_with (first
                | (go_at_call 90; refine (refDigit_any _ _).mono ?_; rintro e w1 ⟨rfl, h1⟩; obtain rfl := h1.symm)
                | (go_at_call 89; refine (refLetter_any _ _).mono ?_; rintro e w1 ⟨rfl, h1⟩; obtain rfl := h1.symm)
                | (go_at_call 91; refine (hAm _ _).mono ?_; rintro e w2 ⟨rfl, h2⟩; obtain rfl := h2.symm))
              refine bodyPost_ret (v := .agg #[.int .i64 0, .int .i64 0, .int .i64 p, .string (s.extract p k)]) (by simp [results, Tryz.results92, go_sem]) rfl ⟨by rw [HW.out, HK.out], ?_⟩
              exact (((Below.refl _ _).alloc (Nat.le_refl _) _).alloc (by simp) _).alloc (by simp; omega) _
            | false =>
              have HK : Hid (wordKind true (s.extract p k) = 1) := by show _ = _; unfold wordKind; rw [ham]; rfl
              have hAm := fun o1 o2 => among_any (w.heap.size + 2) 15 kwBs (s.extract p k) (((w.alloc o1).alloc o2).alloc (.cells (kwBs.map Value.string).toArray 9)) (by decide) (by have := strs_new ((w.alloc o1).alloc o2) kwBs 9; simpa using this)
              rw [ham] at hAm
              go_wp2_with (first
                | (go_at_call 90; refine (refDigit_any _ _).mono ?_; rintro e w1 ⟨rfl, h1⟩; obtain rfl := h1.symm)
                | (go_at_call 89; refine (refLetter_any _ _).mono ?_; rintro e w1 ⟨rfl, h1⟩; obtain rfl := h1.symm)
                | (go_at_call 91; refine (hAm _ _).mono ?_; rintro e w2 ⟨rfl, h2⟩; obtain rfl := h2.symm))
              refine bodyPost_ret (v := .agg #[.int .i64 1, .int .i64 0, .int .i64 p, .string (s.extract p k)]) (by simp [results, Tryz.results92, go_sem]) rfl ⟨by rw [HW.out, HK.out], ?_⟩
              exact (((Below.refl _ _).alloc (Nat.le_refl _) _).alloc (by simp) _).alloc (by simp; omega) _
      · have HR : Hid (∀ (h : k < s.size), contB true s[k].toNat = false) := fun h => absurd h hlt
        have hpk' := run_pos s p k true hp HC.out hpk HR.out
        have HW : Hid (runEnd s p true = k) := runEnd_eq s p k true hpk hk HA.out HR.out
        have HT : Hid (soFar s p k = s.extract p k) := by show _ = _; unfold soFar; rw [if_neg (by omega)]
        rw [HT.out]
        cases ham : amongB (s.extract p k) kwBs with
        | true =>
          have HK : Hid (wordKind true (s.extract p k) = 0) := by show _ = _; unfold wordKind; rw [ham]; rfl
          have hAm := fun o1 o2 => among_any (w.heap.size + 2) 15 kwBs (s.extract p k) (((w.alloc o1).alloc o2).alloc (.cells (kwBs.map Value.string).toArray 9)) (by decide) (by have := strs_new ((w.alloc o1).alloc o2) kwBs 9; simpa using this)
          rw [ham] at hAm
          go_wp2_with (first
            | (go_at_call 90; refine (refDigit_any _ _).mono ?_; rintro e w1 ⟨rfl, h1⟩; obtain rfl := h1.symm)
            | (go_at_call 89; refine (refLetter_any _ _).mono ?_; rintro e w1 ⟨rfl, h1⟩; obtain rfl := h1.symm)
            | (go_at_call 91; refine (hAm _ _).mono ?_; rintro e w2 ⟨rfl, h2⟩; obtain rfl := h2.symm))
          refine bodyPost_ret (v := .agg #[.int .i64 0, .int .i64 0, .int .i64 p, .string (s.extract p k)]) (by simp [results, Tryz.results92, go_sem]) rfl ⟨by rw [HW.out, HK.out], ?_⟩
          exact (((Below.refl _ _).alloc (Nat.le_refl _) _).alloc (by simp) _).alloc (by simp; omega) _
        | false =>
          have HK : Hid (wordKind true (s.extract p k) = 1) := by show _ = _; unfold wordKind; rw [ham]; rfl
          have hAm := fun o1 o2 => among_any (w.heap.size + 2) 15 kwBs (s.extract p k) (((w.alloc o1).alloc o2).alloc (.cells (kwBs.map Value.string).toArray 9)) (by decide) (by have := strs_new ((w.alloc o1).alloc o2) kwBs 9; simpa using this)
          rw [ham] at hAm
          go_wp2_with (first
            | (go_at_call 90; refine (refDigit_any _ _).mono ?_; rintro e w1 ⟨rfl, h1⟩; obtain rfl := h1.symm)
            | (go_at_call 89; refine (refLetter_any _ _).mono ?_; rintro e w1 ⟨rfl, h1⟩; obtain rfl := h1.symm)
            | (go_at_call 91; refine (hAm _ _).mono ?_; rintro e w2 ⟨rfl, h2⟩; obtain rfl := h2.symm))
          refine bodyPost_ret (v := .agg #[.int .i64 1, .int .i64 0, .int .i64 p, .string (s.extract p k)]) (by simp [results, Tryz.results92, go_sem]) rfl ⟨by rw [HW.out, HK.out], ?_⟩
          exact (((Below.refl _ _).alloc (Nat.le_refl _) _).alloc (by simp) _).alloc (by simp; omega) _
  | false =>
    go_wp2_with (go_at_call 89; refine (hL _).mono ?_; rintro e w1 ⟨rfl, h1⟩; obtain rfl := h1.symm)
    go_loopw [7, 8, 9] (fun t _ _ wr => ∃ k : Nat, p ≤ k ∧ k ≤ s.size ∧ t = .int .i64 k ∧ (∀ j (h : j < s.size), p ≤ j → j < k → contB false s[j].toNat = true) ∧ wr = (w.alloc (.cells #[.int .i64 0, .int .i64 0, .int .i64 0, .string ⟨#[]⟩] 162)).alloc (.cells #[.int .i64 2, .int .i64 0, .int .i64 p, .string (soFar s p k)] 162)) (fun t _ _ _ => s.size - (intOf t).toNat)
    case atStart => exact ⟨p, Nat.le_refl _, by omega, rfl, fun j h h1 h2 => by omega, by simp [soFar]⟩
    case round =>
      obtain ⟨k, hpk, hk, rfl, hall, hwr⟩ := hrel
      have HA : Hid (∀ j (h : j < s.size), p ≤ j → j < k → contB false s[j].toNat = true) := hall
      subst hwr
      clear hall
      by_cases hlt : k < s.size
      · have hA' : contB false s[k].toNat = true → Hid (∀ j (h : j < s.size), p ≤ j → j < k + 1 → contB false s[j].toNat = true) := fun h0 j h h1 h2 => by
          by_cases e : j = k
          · subst e; exact h0
          · exact HA.out j h h1 (by omega)
        have HS : Hid (soFar s p (k + 1) = s.extract p (k + 1)) := by show _ = _; unfold soFar; rw [if_neg (by omega)]
        cases hd : isDigitB s[k].toNat with
        | true =>
          have HA2 := hA' (by simp [contB, hd])
          clear hA'
          go_wp2_with (first
            | (go_at_call 90; refine (refDigit_any _ _).mono ?_; rintro e w1 ⟨rfl, h1⟩; obtain rfl := h1.symm)
            | (go_at_call 89; refine (refLetter_any _ _).mono ?_; rintro e w1 ⟨rfl, h1⟩; obtain rfl := h1.symm))
          all_goals go_roundw
          case rel => exact ⟨k + 1, by omega, by omega, by go_num, HA2.out, by rw [HS.out]⟩
          case measure => simp [intOf]; omega
        | false =>
          cases hl : isLetterB s[k].toNat with
          | true =>
            have HR : Hid (∀ (h : k < s.size), contB false s[k].toNat = false) := fun h => by simp [contB, hd, hl]
            clear hA' HS
            have hpk' := run_pos s p k false hp HC.out hpk HR.out
            have HW : Hid (runEnd s p false = k) := runEnd_eq s p k false hpk hk HA.out HR.out
            have HT : Hid (soFar s p k = s.extract p k) := by show _ = _; unfold soFar; rw [if_neg (by omega)]
            rw [HT.out]
            cases ham : amongB (s.extract p k) kwBs with
            | true =>
              have HK : Hid (wordKind false (s.extract p k) = 0) := by show _ = _; unfold wordKind; rw [ham]; rfl
              have hAm := fun o1 o2 => among_any (w.heap.size + 2) 15 kwBs (s.extract p k) (((w.alloc o1).alloc o2).alloc (.cells (kwBs.map Value.string).toArray 9)) (by decide) (by have := strs_new ((w.alloc o1).alloc o2) kwBs 9; simpa using this)
              rw [ham] at hAm
              go_wp2_with (first
                | (go_at_call 90; refine (refDigit_any _ _).mono ?_; rintro e w1 ⟨rfl, h1⟩; obtain rfl := h1.symm)
                | (go_at_call 89; refine (refLetter_any _ _).mono ?_; rintro e w1 ⟨rfl, h1⟩; obtain rfl := h1.symm)
                | (go_at_call 91; refine (hAm _ _).mono ?_; rintro e w2 ⟨rfl, h2⟩; obtain rfl := h2.symm))
              refine bodyPost_ret (v := .agg #[.int .i64 0, .int .i64 0, .int .i64 p, .string (s.extract p k)]) (by simp [results, Tryz.results92, go_sem]) rfl ⟨by rw [HW.out, HK.out], ?_⟩
              exact (((Below.refl _ _).alloc (Nat.le_refl _) _).alloc (by simp) _).alloc (by simp; omega) _
            | false =>
              have HK : Hid (wordKind false (s.extract p k) = 2) := by show _ = _; unfold wordKind; rw [ham]; rfl
              have hAm := fun o1 o2 => among_any (w.heap.size + 2) 15 kwBs (s.extract p k) (((w.alloc o1).alloc o2).alloc (.cells (kwBs.map Value.string).toArray 9)) (by decide) (by have := strs_new ((w.alloc o1).alloc o2) kwBs 9; simpa using this)
              rw [ham] at hAm
              go_wp2_with (first
                | (go_at_call 90; refine (refDigit_any _ _).mono ?_; rintro e w1 ⟨rfl, h1⟩; obtain rfl := h1.symm)
                | (go_at_call 89; refine (refLetter_any _ _).mono ?_; rintro e w1 ⟨rfl, h1⟩; obtain rfl := h1.symm)
                | (go_at_call 91; refine (hAm _ _).mono ?_; rintro e w2 ⟨rfl, h2⟩; obtain rfl := h2.symm))
              refine bodyPost_ret (v := .agg #[.int .i64 2, .int .i64 0, .int .i64 p, .string (s.extract p k)]) (by simp [results, Tryz.results92, go_sem]) rfl ⟨by rw [HW.out, HK.out], ?_⟩
              exact (((Below.refl _ _).alloc (Nat.le_refl _) _).alloc (by simp) _).alloc (by simp; omega) _
          | false =>
            have HR : Hid (∀ (h : k < s.size), contB false s[k].toNat = false) := fun h => by simp [contB, hd, hl]
            clear hA' HS
            have hpk' := run_pos s p k false hp HC.out hpk HR.out
            have HW : Hid (runEnd s p false = k) := runEnd_eq s p k false hpk hk HA.out HR.out
            have HT : Hid (soFar s p k = s.extract p k) := by show _ = _; unfold soFar; rw [if_neg (by omega)]
            rw [HT.out]
            cases ham : amongB (s.extract p k) kwBs with
            | true =>
              have HK : Hid (wordKind false (s.extract p k) = 0) := by show _ = _; unfold wordKind; rw [ham]; rfl
              have hAm := fun o1 o2 => among_any (w.heap.size + 2) 15 kwBs (s.extract p k) (((w.alloc o1).alloc o2).alloc (.cells (kwBs.map Value.string).toArray 9)) (by decide) (by have := strs_new ((w.alloc o1).alloc o2) kwBs 9; simpa using this)
              rw [ham] at hAm
              go_wp2_with (first
                | (go_at_call 90; refine (refDigit_any _ _).mono ?_; rintro e w1 ⟨rfl, h1⟩; obtain rfl := h1.symm)
                | (go_at_call 89; refine (refLetter_any _ _).mono ?_; rintro e w1 ⟨rfl, h1⟩; obtain rfl := h1.symm)
                | (go_at_call 91; refine (hAm _ _).mono ?_; rintro e w2 ⟨rfl, h2⟩; obtain rfl := h2.symm))
              refine bodyPost_ret (v := .agg #[.int .i64 0, .int .i64 0, .int .i64 p, .string (s.extract p k)]) (by simp [results, Tryz.results92, go_sem]) rfl ⟨by rw [HW.out, HK.out], ?_⟩
              exact (((Below.refl _ _).alloc (Nat.le_refl _) _).alloc (by simp) _).alloc (by simp; omega) _
            | false =>
              have HK : Hid (wordKind false (s.extract p k) = 2) := by show _ = _; unfold wordKind; rw [ham]; rfl
              have hAm := fun o1 o2 => among_any (w.heap.size + 2) 15 kwBs (s.extract p k) (((w.alloc o1).alloc o2).alloc (.cells (kwBs.map Value.string).toArray 9)) (by decide) (by have := strs_new ((w.alloc o1).alloc o2) kwBs 9; simpa using this)
              rw [ham] at hAm
              go_wp2_with (first
                | (go_at_call 90; refine (refDigit_any _ _).mono ?_; rintro e w1 ⟨rfl, h1⟩; obtain rfl := h1.symm)
                | (go_at_call 89; refine (refLetter_any _ _).mono ?_; rintro e w1 ⟨rfl, h1⟩; obtain rfl := h1.symm)
                | (go_at_call 91; refine (hAm _ _).mono ?_; rintro e w2 ⟨rfl, h2⟩; obtain rfl := h2.symm))
              refine bodyPost_ret (v := .agg #[.int .i64 2, .int .i64 0, .int .i64 p, .string (s.extract p k)]) (by simp [results, Tryz.results92, go_sem]) rfl ⟨by rw [HW.out, HK.out], ?_⟩
              exact (((Below.refl _ _).alloc (Nat.le_refl _) _).alloc (by simp) _).alloc (by simp; omega) _
      · have HR : Hid (∀ (h : k < s.size), contB false s[k].toNat = false) := fun h => absurd h hlt
        have hpk' := run_pos s p k false hp HC.out hpk HR.out
        have HW : Hid (runEnd s p false = k) := runEnd_eq s p k false hpk hk HA.out HR.out
        have HT : Hid (soFar s p k = s.extract p k) := by show _ = _; unfold soFar; rw [if_neg (by omega)]
        rw [HT.out]
        cases ham : amongB (s.extract p k) kwBs with
        | true =>
          have HK : Hid (wordKind false (s.extract p k) = 0) := by show _ = _; unfold wordKind; rw [ham]; rfl
          have hAm := fun o1 o2 => among_any (w.heap.size + 2) 15 kwBs (s.extract p k) (((w.alloc o1).alloc o2).alloc (.cells (kwBs.map Value.string).toArray 9)) (by decide) (by have := strs_new ((w.alloc o1).alloc o2) kwBs 9; simpa using this)
          rw [ham] at hAm
          go_wp2_with (first
            | (go_at_call 90; refine (refDigit_any _ _).mono ?_; rintro e w1 ⟨rfl, h1⟩; obtain rfl := h1.symm)
            | (go_at_call 89; refine (refLetter_any _ _).mono ?_; rintro e w1 ⟨rfl, h1⟩; obtain rfl := h1.symm)
            | (go_at_call 91; refine (hAm _ _).mono ?_; rintro e w2 ⟨rfl, h2⟩; obtain rfl := h2.symm))
          refine bodyPost_ret (v := .agg #[.int .i64 0, .int .i64 0, .int .i64 p, .string (s.extract p k)]) (by simp [results, Tryz.results92, go_sem]) rfl ⟨by rw [HW.out, HK.out], ?_⟩
          exact (((Below.refl _ _).alloc (Nat.le_refl _) _).alloc (by simp) _).alloc (by simp; omega) _
        | false =>
          have HK : Hid (wordKind false (s.extract p k) = 2) := by show _ = _; unfold wordKind; rw [ham]; rfl
          have hAm := fun o1 o2 => among_any (w.heap.size + 2) 15 kwBs (s.extract p k) (((w.alloc o1).alloc o2).alloc (.cells (kwBs.map Value.string).toArray 9)) (by decide) (by have := strs_new ((w.alloc o1).alloc o2) kwBs 9; simpa using this)
          rw [ham] at hAm
          go_wp2_with (first
            | (go_at_call 90; refine (refDigit_any _ _).mono ?_; rintro e w1 ⟨rfl, h1⟩; obtain rfl := h1.symm)
            | (go_at_call 89; refine (refLetter_any _ _).mono ?_; rintro e w1 ⟨rfl, h1⟩; obtain rfl := h1.symm)
            | (go_at_call 91; refine (hAm _ _).mono ?_; rintro e w2 ⟨rfl, h2⟩; obtain rfl := h2.symm))
          refine bodyPost_ret (v := .agg #[.int .i64 2, .int .i64 0, .int .i64 p, .string (s.extract p k)]) (by simp [results, Tryz.results92, go_sem]) rfl ⟨by rw [HW.out, HK.out], ?_⟩
          exact (((Below.refl _ _).alloc (Nat.le_refl _) _).alloc (by simp) _).alloc (by simp; omega) _

end Go.Proofs.YtklobognaldjpaaGreat
