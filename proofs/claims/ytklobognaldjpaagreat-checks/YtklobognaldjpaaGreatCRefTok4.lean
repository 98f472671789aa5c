/- The reference's tokens: what the plain functions say of each. -/
import Derived.Test.YtklobognaldjpaaGreatCRefTok3
namespace Go.Proofs.YtklobognaldjpaaGreat
open Go.RowKit

/-- The reference's numbers of kinds. -/
def TK.r : TK → Int | .keyword => 0 | .name => 1 | .number => 2 | .sign => 3 | .over => 4

/-- A token's cells, as the reference holds it. -/
def tokRC (t : Tok) : List Value := [.int .i64 t.kind.r, .int .i64 t.val, .int .i64 t.pos, .string t.text]
def toksRC (ts : List Tok) : List Value := ts.flatMap tokRC

theorem toksRC_len (ts : List Tok) : (toksRC ts).length = ts.length * 4 := by
  induction ts with
  | nil => rfl
  | cons a l ih =>
    have e : toksRC (a :: l) = tokRC a ++ toksRC l := rfl
    have e2 : (tokRC a).length = 4 := rfl
    rw [e, List.length_append, ih, e2, List.length_cons]; omega

theorem toksRC_snoc (ts : List Tok) (t : Tok) : toksRC (ts ++ [t]) = toksRC ts ++ tokRC t := by
  simp [toksRC]

/-- What the reference's Tokens answers, and what it leaves. -/
def RTokPost (s : ByteArray) (w : World) (e : Ending) (w' : World) : Prop :=
  Below w.heap.size w w' ∧
  ((∃ c q, lexAll s.data.toList = .error (c, q) ∧ e = .returned (.tuple #[.slice none 0 0, .int .i64 c, .int .i64 q])) ∨
   (∃ ts v, lexAll s.data.toList = .ok ts ∧ e = .returned (.tuple #[v, .int .i64 0, .int .i64 0]) ∧ w'.ownsRow w.heap.size 162 4 v ts.length (toksRC ts)))

theorem extract_mid (s : ByteArray) (g n : Nat) : s.extract g (g + n) = ⟨((s.data.toList.drop g).take n).toArray⟩ := by
  apply ByteArray.ext
  apply Array.toList_inj.1
  simp only [ByteArray.data_extract, Array.toList_extract, List.extract_eq_take_drop]
  congr 1
  omega

theorem extract_mid_size (s : ByteArray) (g n : Nat) (h : g + n ≤ s.size) : (s.extract g (g + n)).size = n := by
  rw [extract_mid]
  show ((s.data.toList.drop g).take n).toArray.size = n
  rw [List.size_toArray, List.length_take, List.length_drop, len_toList]; omega

def signBs : List ByteArray := [⟨#[43]⟩, ⟨#[45]⟩, ⟨#[42]⟩, ⟨#[47]⟩, ⟨#[37]⟩, ⟨#[61]⟩, ⟨#[35]⟩, ⟨#[60]⟩, ⟨#[62]⟩, ⟨#[40]⟩, ⟨#[41]⟩, ⟨#[91]⟩, ⟨#[93]⟩, ⟨#[44]⟩, ⟨#[59]⟩, ⟨#[46]⟩]

theorem signBs_eq : signBs = (signs.map fun c => [c]).map bs := rfl

theorem contains_single (l : List UInt8) (c : UInt8) : (l.map fun c => [c]).contains [c] = l.contains c := by
  induction l with
  | nil => rfl
  | cons a l ih =>
    rw [List.map_cons, List.contains_cons, List.contains_cons, ih]
    congr 1
    simp

theorem among_sign (s : ByteArray) (g : Nat) (h : g < s.size) : amongB (s.extract g (g + 1)) signBs = signs.contains s[g] := by
  obtain ⟨t, ht⟩ := drop_head s g h
  rw [signBs_eq, amongB_map, extract_mid, ht]
  show (signs.map fun c => [c]).contains ((s[g] :: t).take 1) = _
  rw [show (s[g] :: t).take 1 = [s[g]] from rfl, contains_single]

theorem among_kw (t : ByteArray) : amongB t kwBs = keywords.contains t.data.toList := by rw [kwBs_eq, amongB_map]

theorem run_word (s : ByteArray) (g : Nat) : runEnd s g true = g + wordLen (s.data.toList.drop g) := by
  unfold runEnd wordLen
  congr 3
  funext c
  simp only [contB, letterB, digitB, Bool.and_true, Bool.or_comm]

theorem run_dig (s : ByteArray) (g : Nat) : runEnd s g false = g + digLen (s.data.toList.drop g) := by
  unfold runEnd digLen
  congr 3
  funext c
  simp only [contB, digitB, Bool.and_false, Bool.or_false]

theorem lex_word (s : ByteArray) (g : Nat) (h : g < s.size) (hl : isLetterB s[g].toNat = true) :
    ∃ x, lex1 (s.data.toList.drop g) = .ok x ∧ x.1.r = wordKind true (s.extract g (runEnd s g true)) ∧ x.2.2 = 0 ∧ (mkTok s.data.toList g x).text = s.extract g (runEnd s g true) ∧ g + x.2.1 = runEnd s g true := by
  obtain ⟨t, ht⟩ := drop_head s g h
  refine ⟨(if keywords.contains ((s.data.toList.drop g).take (wordLen (s.data.toList.drop g))) then .keyword else .name, wordLen (s.data.toList.drop g), 0), ?_, ?_, rfl, ?_, ?_⟩
  · rw [ht]; simp only [lex1, letterB, hl, if_true]
  · rw [wordKind, among_kw, run_word, extract_mid]
    show TK.r (if keywords.contains _ then _ else _) = if keywords.contains ((s.data.toList.drop g).take (wordLen (s.data.toList.drop g))) then _ else _
    split <;> rfl
  · rw [run_word, extract_mid]; rfl
  · rw [run_word]

theorem lex_num (s : ByteArray) (g : Nat) (h : g < s.size) (hl : isLetterB s[g].toNat = false) (hd : isDigitB s[g].toNat = true) :
    lex1 (s.data.toList.drop g) = if valOf (s.extract g (runEnd s g false)).data.toList > maxNumber then .error 3 else .ok (.number, digLen (s.data.toList.drop g), valOf (s.extract g (runEnd s g false)).data.toList) := by
  obtain ⟨t, ht⟩ := drop_head s g h
  rw [run_dig, extract_mid]
  show _ = if valOf ((s.data.toList.drop g).take (digLen (s.data.toList.drop g))) > maxNumber then Except.error 3 else Except.ok (TK.number, digLen (s.data.toList.drop g), valOf ((s.data.toList.drop g).take (digLen (s.data.toList.drop g))))
  rw [ht]; simp only [lex1, letterB, digitB, hl, hd, if_true]; rfl

theorem lex_kind_num (s : ByteArray) (g : Nat) (h : g < s.size) (hd : isDigitB s[g].toNat = true) : wordKind false (s.extract g (runEnd s g false)) = 2 := by
  have hk : keywords.contains (s.extract g (runEnd s g false)).data.toList = false := by
    obtain ⟨t, ht⟩ := drop_head s g h
    rw [run_dig, extract_mid]
    show keywords.contains ((s.data.toList.drop g).take (digLen (s.data.toList.drop g))) = false
    have hp : 1 ≤ digLen (s.data.toList.drop g) := by rw [ht]; simp [digLen, digitB, hd]
    obtain ⟨m, hm⟩ : ∃ m, digLen (s.data.toList.drop g) = m + 1 := ⟨digLen (s.data.toList.drop g) - 1, by omega⟩
    rw [hm, ht, List.take_succ_cons]
    have hb := (isDigitB_iff _).1 hd
    have hh : ∀ kw ∈ keywords, kw.head? ≠ some s[g] := by
      intro kw hkw e
      have : ∀ kw ∈ keywords, ∀ c, kw.head? = some c → 97 ≤ c.toNat := by decide
      have := this kw hkw _ e
      omega
    rw [Bool.eq_false_iff]
    intro hc
    have := List.contains_iff_mem.1 hc
    exact hh _ this rfl
  rw [wordKind, among_kw, hk]; rfl

theorem mem_tw {α : Type} {p : α → Bool} : ∀ {l : List α} {x : α}, x ∈ l.takeWhile p → p x = true
  | [], x, h => by simp at h
  | a :: l, x, h => by
    rw [List.takeWhile_cons] at h
    split at h
    · rename_i ha
      rcases List.mem_cons.1 h with rfl | h
      · exact ha
      · exact mem_tw h
    · simp at h

theorem digits_of_run (s : ByteArray) (g : Nat) : ∀ j (hj : j < (s.extract g (runEnd s g false)).size), isDigitB (s.extract g (runEnd s g false))[j].toNat = true := by
  intro j hj
  have e1 : (s.extract g (runEnd s g false)).data.toList = (s.data.toList.drop g).takeWhile digitB := by
    rw [run_dig, extract_mid]
    show (s.data.toList.drop g).take (digLen (s.data.toList.drop g)) = _
    exact (List.prefix_iff_eq_take.1 (List.takeWhile_prefix _)).symm
  have e2 : (s.extract g (runEnd s g false))[j] ∈ (s.data.toList.drop g).takeWhile digitB := by
    rw [← e1]; exact List.getElem_mem (l := (s.extract g (runEnd s g false)).data.toList) hj
  exact mem_tw (p := digitB) e2

end Go.Proofs.YtklobognaldjpaaGreat
