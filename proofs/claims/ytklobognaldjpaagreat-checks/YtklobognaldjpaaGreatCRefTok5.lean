/- The reference's tokens: all of a text. -/
import Derived.Test.YtklobognaldjpaaGreatCRefTok4
namespace Go.Proofs.YtklobognaldjpaaGreat
open Go.RowKit

theorem Tryz.infoRTok : (Tryz.prog.info? 162).map (fun i => (i.zero, i.size, i.bytes)) = some (some (.agg #[.int .i64 0, .int .i64 0, .int .i64 0, .string ByteArray.empty]), 4, 40) := by kernel_rfl

theorem lexGo_note (s : ByteArray) (ts : List Tok) (g : Nat) (h : g < s.size) (hn : s[g].toNat = 123) : lexGo s ts g = .error (2, g) := by
  refine lexGo_bad s ts g 2 h ?_
  obtain ⟨t, ht⟩ := drop_head s g h
  rw [ht]
  have e : s[g] = 123 := (byte_iff _ _).2 hn
  rw [e]
  rfl

theorem lex_sign (s : ByteArray) (g : Nat) (h : g < s.size) (hl : isLetterB s[g].toNat = false) (hd : isDigitB s[g].toNat = false) (hs : signs.contains s[g] = true) : lex1 (s.data.toList.drop g) = .ok (.sign, 1, 0) := by
  obtain ⟨t, ht⟩ := drop_head s g h
  rw [ht]; simp only [lex1, letterB, digitB, hl, hd, hs, if_true]; rfl

/-- Does := stand there? -/
def asgB (s : ByteArray) (g : Nat) : Bool := (s.extract g (g + 2)).toList == [58, 61]

theorem asgB_iff (s : ByteArray) (g : Nat) (h : g < s.size) : (g + 1 < s.size ∧ asgB s g = true) ↔ (s[g] = 58 ∧ (s.data.toList.drop (g + 1)).head? = some 61) := by
  obtain ⟨t, ht⟩ := drop_head s g h
  have ht2 : s.data.toList.drop (g + 1) = t := by
    have := congrArg (List.drop 1) ht
    rw [List.drop_drop] at this
    exact this
  have e : (s.extract g (g + 2)).toList = (s[g] :: t).take 2 := by rw [Lib.toList_data, extract_mid, ht]
  have hlen : t.length = s.size - (g + 1) := by rw [← ht2, List.length_drop, len_toList]
  unfold asgB
  rw [e, ht2]
  cases t with
  | nil => simp at hlen ⊢
  | cons b t =>
    simp only [List.length_cons] at hlen
    simp only [List.take_succ_cons, List.take_zero, beq_iff_eq, List.cons.injEq, and_true, List.head?_cons, Option.some.injEq]
    constructor
    · rintro ⟨_, h1, h2⟩; exact ⟨h1, h2⟩
    · rintro ⟨h1, h2⟩; exact ⟨by omega, h1, h2⟩

theorem lex_asg (s : ByteArray) (g : Nat) (h : g < s.size) (ha : g + 1 < s.size ∧ asgB s g = true) : lex1 (s.data.toList.drop g) = .ok (.sign, 2, 0) ∧ signs.contains s[g] = false := by
  have h2 := (asgB_iff s g h).1 ha
  obtain ⟨t, ht⟩ := drop_head s g h
  have ht2 : s.data.toList.drop (g + 1) = t := by
    have := congrArg (List.drop 1) ht
    rw [List.drop_drop] at this
    exact this
  have hc : signs.contains s[g] = false := by rw [h2.1]; rfl
  refine ⟨?_, hc⟩
  rw [ht2] at h2
  rw [ht, h2.1]; simp only [lex1, h2.2, and_self, if_true]; rfl

theorem lex_bad (s : ByteArray) (g : Nat) (h : g < s.size) (hl : isLetterB s[g].toNat = false) (hd : isDigitB s[g].toNat = false) (ha : ¬ (g + 1 < s.size ∧ asgB s g = true)) (hs : signs.contains s[g] = false) : lex1 (s.data.toList.drop g) = .error 2 := by
  have h2 := fun x => ha ((asgB_iff s g h).2 x)
  obtain ⟨t, ht⟩ := drop_head s g h
  have ht2 : s.data.toList.drop (g + 1) = t := by
    have := congrArg (List.drop 1) ht
    rw [List.drop_drop] at this
    exact this
  rw [ht2] at h2
  rw [ht]; simp only [lex1, letterB, digitB, hl, hd, hs, if_neg h2]; rfl

theorem asg_text (s : ByteArray) (g : Nat) (ha : asgB s g = true) : (⟨#[58, 61]⟩ : ByteArray) = ⟨((s.data.toList.drop g).take 2).toArray⟩ := by
  rw [← extract_mid]
  have := ha
  unfold asgB at this
  have e : ([58, 61] : List UInt8) = (⟨#[58, 61]⟩ : ByteArray).toList := by rw [Lib.toList_data]
  rw [e] at this
  exact ((Lib.bytes_beq_iff _ ⟨#[58, 61]⟩).1 this).symm

/-- The block laid last, behind a call that leaves what is old. -/
theorem last_kept {w w2 : World} {a b c d : Value} {t : TypeId} (hb : Below (w.alloc (.cells #[a, b, c, d] t)).heap.size (w.alloc (.cells #[a, b, c, d] t)) w2) :
    w2.cell? ⟨w.heap.size, 0, none⟩ = some a ∧ w2.cell? ⟨w.heap.size, 1, none⟩ = some b ∧ w2.cell? ⟨w.heap.size, 2, none⟩ = some c ∧ w2.cell? ⟨w.heap.size, 3, none⟩ = some d ∧ (∀ o, w2.frozen? ⟨w.heap.size, o, none⟩ = false) ∧ w.heap.size < w2.heap.size := by
  obtain ⟨hc, hf⟩ := bcell hb
  have hl : w.heap.size < (w.alloc (.cells #[a, b, c, d] t)).heap.size := by simp
  refine ⟨?_, ?_, ?_, ?_, fun o => ?_, by have := hb.size; simp at this; omega⟩
  · rw [hc _ _ hl]; exact World.cell?_alloc_new w _ t 0
  · rw [hc _ _ hl]; exact World.cell?_alloc_new w _ t 1
  · rw [hc _ _ hl]; exact World.cell?_alloc_new w _ t 2
  · rw [hc _ _ hl]; exact World.cell?_alloc_new w _ t 3
  · rw [hf _ _ hl]; exact World.frozen?_alloc_new w _ t o

/-- What the call owns stays owned while its row stays. -/
theorem owns_of_block {w w' : World} {base : Nat} {e : TypeId} {size : Nat} {v : Value} {n : Nat} {xs : List Value} (h : w.ownsRow base e size v n xs) (hk : ∀ k, v.ownBlock = some k → w'.heap[k]? = w.heap[k]?) : w'.ownsRow base e size v n xs := by
  obtain ⟨h1, h2⟩ := h
  refine ⟨h1, ?_⟩
  rcases h2 with h2 | ⟨g, cap, cur, hv, hg, hh, r⟩
  · exact .inl h2
  · exact .inr ⟨g, cap, cur, hv, hg, by rw [hk g (by rw [hv]; rfl)]; exact hh, r⟩

theorem alloc3_last (wr : World) (o1 o2 : Obj) (a b c d : Value) (t : TypeId) : (((wr.alloc o1).alloc (.cells #[a, b, c, d] t)).alloc o2).cell? ⟨wr.heap.size + 1, 3, none⟩ = some d := by
  rw [World.cell?_alloc_lt _ _ _ (by simp)]
  have := World.cell?_alloc_new (wr.alloc o1) #[a, b, c, d] t 3
  rw [show (wr.alloc o1).heap.size = wr.heap.size + 1 from by simp] at this
  exact this

theorem set_four_last {w : World} {b : Nat} {a3 : Value} (h3 : w.cell? ⟨b, 3, none⟩ = some a3) (v0 v1 v2 v3 : Value) (o : Obj) :
    (((((w.setCell ⟨b, 0, none⟩ v0).setCell ⟨b, 1, none⟩ v1).setCell ⟨b, 2, none⟩ v2).setCell ⟨b, 3, none⟩ v3).alloc o).cell? ⟨b, 3, none⟩ = some v3 := by
  rw [World.cell?_alloc_lt _ _ _ (by simp [World.setCell]; exact lt_of_cell h3)]
  refine World.cell?_setCell_same _ _ _ (u := a3) ?_
  rw [World.cell?_setCell_other _ _ _ _ (by simp), World.cell?_setCell_other _ _ _ _ (by simp), World.cell?_setCell_other _ _ _ _ (by simp)]
  exact h3

theorem set_one_last {w : World} {b : Nat} {a3 : Value} (h3 : w.cell? ⟨b, 3, none⟩ = some a3) (v : Value) (o : Obj) : ((w.setCell ⟨b, 1, none⟩ v).alloc o).cell? ⟨b, 3, none⟩ = some a3 := by
  rw [World.cell?_alloc_lt _ _ _ (by simp [World.setCell]; exact lt_of_cell h3), World.cell?_setCell_other _ _ _ _ (by simp)]
  exact h3

/-- Behind four stores into one block: what it holds, and that nothing older has turned. -/
theorem after_four {w2 w9 wr : World} {b : Nat} {a0 a1 a2 a3 v0 v1 v2 v3 : Value} (d0 : w2.cell? ⟨b, 0, none⟩ = some a0) (d1 : w2.cell? ⟨b, 1, none⟩ = some a1) (d2 : w2.cell? ⟨b, 2, none⟩ = some a2) (d3 : w2.cell? ⟨b, 3, none⟩ = some a3)
    (_f0 : w2.frozen? ⟨b, 0, none⟩ = false) (f1 : w2.frozen? ⟨b, 1, none⟩ = false) (_f2 : w2.frozen? ⟨b, 2, none⟩ = false) (_f3 : w2.frozen? ⟨b, 3, none⟩ = false) (hl : b < w2.heap.size) (hB : Below wr.heap.size wr w2) (hb : wr.heap.size ≤ b)
    (h9 : w9 = (((w2.setCell ⟨b, 0, none⟩ v0).setCell ⟨b, 1, none⟩ v1).setCell ⟨b, 2, none⟩ v2).setCell ⟨b, 3, none⟩ v3) :
    w9.cell? ⟨b, 0, none⟩ = some v0 ∧ w9.cell? ⟨b, 1, none⟩ = some v1 ∧ w9.cell? ⟨b, 2, none⟩ = some v2 ∧ w9.cell? ⟨b, 3, none⟩ = some v3 ∧ w9.frozen? ⟨b, 1, none⟩ = false ∧ b < w9.heap.size ∧ Below wr.heap.size wr w9 := by
  subst h9
  refine ⟨?_, ?_, ?_, ?_, by simp [f1], by simp [World.setCell]; exact hl, (((hB.setCell hb _).setCell hb _).setCell hb _).setCell hb _⟩
  · rw [World.cell?_setCell_other _ _ _ _ (by simp), World.cell?_setCell_other _ _ _ _ (by simp), World.cell?_setCell_other _ _ _ _ (by simp)]; exact World.cell?_setCell_same _ _ _ d0
  · rw [World.cell?_setCell_other _ _ _ _ (by simp), World.cell?_setCell_other _ _ _ _ (by simp)]; exact World.cell?_setCell_same _ _ _ (by rw [World.cell?_setCell_other _ _ _ _ (by simp)]; exact d1)
  · rw [World.cell?_setCell_other _ _ _ _ (by simp)]; exact World.cell?_setCell_same _ _ _ (by rw [World.cell?_setCell_other _ _ _ _ (by simp), World.cell?_setCell_other _ _ _ _ (by simp)]; exact d2)
  · exact World.cell?_setCell_same _ _ _ (by rw [World.cell?_setCell_other _ _ _ _ (by simp), World.cell?_setCell_other _ _ _ _ (by simp), World.cell?_setCell_other _ _ _ _ (by simp)]; exact d3)

theorem cell_four_at {W : World} {m : Nat} (h : W.heap.size = m) (a b c d : Value) (t : TypeId) : ∀ j u, [a, b, c, d][j]? = some u → (W.alloc (.cells #[a, b, c, d] t)).cell? ((⟨m, 0, none⟩ : Addr).add j) = some u := by
  subst h; exact cell_four_new W a b c d t

theorem amongSigns_any (x : ByteArray) (w : World) : Calls Tryz.prog 91 #[.string x, .slice (some ⟨w.heap.size, 0, none⟩) 16 16] (w.alloc (.cells #[.string ⟨#[43]⟩, .string ⟨#[45]⟩, .string ⟨#[42]⟩, .string ⟨#[47]⟩, .string ⟨#[37]⟩, .string ⟨#[61]⟩, .string ⟨#[35]⟩, .string ⟨#[60]⟩, .string ⟨#[62]⟩, .string ⟨#[40]⟩, .string ⟨#[41]⟩, .string ⟨#[91]⟩, .string ⟨#[93]⟩, .string ⟨#[44]⟩, .string ⟨#[59]⟩, .string ⟨#[46]⟩] 9)) fun e w' => e = .returned (.bool (amongB x signBs)) ∧ w' = w.alloc (.cells #[.string ⟨#[43]⟩, .string ⟨#[45]⟩, .string ⟨#[42]⟩, .string ⟨#[47]⟩, .string ⟨#[37]⟩, .string ⟨#[61]⟩, .string ⟨#[35]⟩, .string ⟨#[60]⟩, .string ⟨#[62]⟩, .string ⟨#[40]⟩, .string ⟨#[41]⟩, .string ⟨#[91]⟩, .string ⟨#[93]⟩, .string ⟨#[44]⟩, .string ⟨#[59]⟩, .string ⟨#[46]⟩] 9) :=
  among_any w.heap.size 16 signBs x (w.alloc (.cells (signBs.map Value.string).toArray 9)) (by decide) (strs_new w signBs 9)

set_option maxRecDepth 1000000 in
set_option maxHeartbeats 4000000 in
theorem refTokens_any (s : ByteArray) (w : World) (hm : s.size ≤ 600) :
    Calls Tryz.prog 66 #[.string s] w fun e w' => RTokPost s w e w' := by
  obtain ⟨i0, hi, hz0, hz1, hz2⟩ := info_parts Tryz.infoRTok
  go_enter Tryz.func66, Tryz.ntmps66
  go_wp2
  go_loopw [5, 6] (fun v t wr => ∃ (ts : List Tok) (q : Nat), q ≤ s.size ∧ t = .int .i64 q ∧ wr.ownsRow w.heap.size 162 4 v ts.length (toksRC ts) ∧ Below w.heap.size w wr ∧ Hid (lexGo s ts (gap s.data.toList q) = lexAll s.data.toList) ∧ ts.length ≤ q) (fun _ t _ => s.size - (intOf t).toNat)
  case atStart => exact ⟨[], 0, Nat.zero_le _, rfl, World.ownsRow_nil _ _ _ _, Below.refl _ _, lexGo_start s, by simp⟩
  case round =>
    obtain ⟨ts, q, hq, rfl, hown, hbw, HL, hlen⟩ := hrel
    have hbs := hbw.size
    have hgq : gap s.data.toList q ≤ s.size := gap_le hq
    have hgg := gap_ge s.data.toList q
    have hSk := fun w => skip_any s q w hq hm
    unfold skipV at hSk
    generalize gap s.data.toList q = g at *
    by_cases hlt : g < s.size
    · simp only [dif_pos hlt] at hSk
      by_cases hnote : s[g].toNat = 123
      · simp only [if_pos hnote] at hSk
        have HB : Hid (lexAll s.data.toList = .error (2, g)) := by show _ = _; rw [← HL.out]; exact lexGo_note s ts g hlt hnote
        clear hnote HL hown
        go_wp2_with (go_at_call 88; refine (hSk _).mono ?_; rintro e w1 ⟨rfl, h1⟩; obtain rfl := h1.symm; clear h1)
        go_ret3
        exact ⟨hbw, .inl ⟨2, g, HB.out, rfl⟩⟩
      · simp only [if_neg hnote] at hSk
        have hge : ((g : Int) == s.size) = false := by simp; omega
        have hsg := among_sign s g hlt
        have hAm := amongSigns_any (s.extract g (g + 1))
        rw [hsg] at hAm
        clear hnote hsg
        cases hl : isLetterB s[g].toNat with
        | true =>
          obtain ⟨x, hx, hx1, hx2, hx3, hx4⟩ := lex_word s g hlt hl
          have hW := fun w => refWord_any s g true w hlt hm hl (by simp [contB, hl])
          have HK : Hid (lexGo s (ts ++ [mkTok s.data.toList g x]) (gap s.data.toList (g + x.2.1)) = lexAll s.data.toList) := by show _ = _; rw [← HL.out]; exact lexGo_ok s ts g x hlt hx
          have hle : g + x.2.1 ≤ s.size := by have := lex1_le hx; rw [List.length_drop, len_toList] at this; omega
          have hge1 := lex1_pos (k := x.1) (n := x.2.1) (v := x.2.2) hx
          have hsz := mkTok_size s g x hx
          have ek : (mkTok s.data.toList g x).kind = x.1 := rfl
          have ev : (mkTok s.data.toList g x).val = x.2.2 := rfl
          have ep : (mkTok s.data.toList g x).pos = g := rfl
          have HT : Hid (tokRC (mkTok s.data.toList g x) = [.int .i64 (wordKind true (s.extract g (runEnd s g true))), .int .i64 0, .int .i64 g, .string (s.extract g (runEnd s g true))]) := by
            show _ = _; unfold tokRC; rw [ek, ev, ep, hx1, hx2, hx3]; rfl
          rw [hx3] at hsz
          have hkk : (wordKind true (s.extract g (runEnd s g true)) == 2) = false := by unfold wordKind; split <;> simp
          generalize mkTok s.data.toList g x = tk at *
          generalize wordKind true (s.extract g (runEnd s g true)) = kk at *
          generalize s.extract g (runEnd s g true) = tx at *
          generalize x.2.1 = n at *
          have hsz' : (tx.size : Int) = n := by omega
          have hLt : ∀ w, Calls Tryz.prog 89 #[.int .u8 (s[g].toNat : Nat)] w fun e w' => e = .returned (.bool true) ∧ w' = w := fun w => by rw [← hl]; exact refLetter_any _ _
          have hDt : ∀ w, Calls Tryz.prog 90 #[.int .u8 (s[g].toNat : Nat)] w fun e w' => e = .returned (.bool (isDigitB s[g].toNat)) ∧ w' = w := fun w => refDigit_any _ _
          clear HL hx hx1 hx2 hx3 hx4 hsz ek ev ep hl
          go_wp2_with (first
            | (go_at_call 88; refine (hSk _).mono ?_; rintro e w1 ⟨rfl, h1⟩; obtain rfl := h1.symm; clear h1)
            | (go_at_call 89; refine (hLt _).mono ?_; rintro e w1 ⟨rfl, h1⟩; obtain rfl := h1.symm; clear h1)
            | (go_at_call 90; refine (hDt _).mono ?_; rintro e w1 ⟨rfl, h1⟩; obtain rfl := h1.symm; clear h1)
            | (go_at_call 91; refine (hAm _).mono ?_; rintro e w1 ⟨rfl, h1⟩; obtain rfl := h1.symm; clear h1)
            | (go_at_call 92; refine (hW _).mono ?_; rintro e w2 ⟨rfl, hb2⟩; obtain ⟨d0, d1, d2, d3, df, dl⟩ := last_kept hb2
               rw [show (wr.alloc (.cells #[.string ⟨#[43]⟩, .string ⟨#[45]⟩, .string ⟨#[42]⟩, .string ⟨#[47]⟩, .string ⟨#[37]⟩, .string ⟨#[61]⟩, .string ⟨#[35]⟩, .string ⟨#[60]⟩, .string ⟨#[62]⟩, .string ⟨#[40]⟩, .string ⟨#[41]⟩, .string ⟨#[91]⟩, .string ⟨#[93]⟩, .string ⟨#[44]⟩, .string ⟨#[59]⟩, .string ⟨#[46]⟩] 9)).heap.size = wr.heap.size + 1 from by simp] at d0 d1 d2 d3 df dl
               have hbb : Below wr.heap.size wr w2 := (((Below.refl _ _).alloc (Nat.le_refl _) _).alloc (by simp) _).trans (hb2.mono (by simp; omega))
               have HB2 : Hid (Below wr.heap.size wr w2) := hbb
               have df0 := df 0; have df1 := df 1; have df2 := df 2; have df3 := df 3
               clear hbb hb2 df)
            | (at_builtin; refine wpList_append_own _ rfl _ _ 120 rfl w.heap.size 162 i0 _ 4 40 Tryz.underlying120 hi hz0 hz1 hz2 rfl (by decide) _ ts.length (toksRC ts) rfl ?wdown ⟨_, 0, none⟩ 1 1 [.int .i64 kk, .int .i64 0, .int .i64 g, .string tx] rfl rfl ?wdnew ?wdh1 ?wdh63 ?wdhby ?wdhbase ?wdhh
               case wdown => exact owns_of_block hown (fun k hk => by
                 have hkl := (hown.lt k hk).2
                 rw [Below.heap_alloc _ _ _ (by simp [World.setCell]; omega)]
                 repeat rw [Below.heap_setCell _ _ _ _ (by show k ≠ wr.heap.size + 1; omega)]
                 exact HB2.out.block k hkl)
               case wdnew => exact cell_four_at (by simp [World.setCell]) _ _ _ _ _
               case wdh1 => intro u hu; simp at hu; rcases hu with rfl | rfl | rfl | rfl <;> rfl
               case wdh63 => unfold maxLen; omega
               case wdhby => omega
               case wdhbase => simp [World.setCell]; omega
               intro v5 w5 hown' hgrow5 hnil5
               have hc5 : w5.cell? ⟨wr.heap.size + 1, 3, none⟩ = some (.string tx) := hgrow5.cell (set_four_last d3 _ _ _ _ _) (fun h => by have := (hown.lt _ h.symm).2; simp at this; omega)
               have hB5 : Below w.heap.size w w5 := by
                 refine Below.grown (?_ : Below w.heap.size w _) hgrow5 (by simp [World.setCell]; omega) (fun k hk => (hown.lt _ hk).1)
                 refine Below.alloc ?_ (by simp [World.setCell]; omega) _
                 repeat (refine Below.setCell ?_ (by show w.heap.size ≤ wr.heap.size + 1; omega) _)
                 exact hbw.trans (HB2.out.mono hbs)
               have X : Aside (w5.ownsRow w.heap.size 162 4 v5 (ts.length + 1) (toksRC ts ++ [.int .i64 kk, .int .i64 0, .int .i64 g, .string tx]) ∧ Below w.heap.size w w5) := ⟨hown', hB5⟩
               clear hown' hgrow5 hnil5 hB5))
          go_roundw
          case rel => exact ⟨ts ++ [tk], g + n, hle, by go_num, by rw [toksRC_snoc, List.length_append, HT.out]; exact X.out.1, X.out.2, HK, by rw [List.length_append]; simp; omega⟩
          case measure => simp [intOf]; omega
        | false =>
          cases hd : isDigitB s[g].toNat with
          | true =>
            have hx := lex_num s g hlt hl hd
            have hW := fun w => refWord_any s g false w hlt hm hl (by simp [contB, hd])
            rw [lex_kind_num s g hlt hd] at hW
            have hle0 : runEnd s g false ≤ s.size := by
              rw [run_dig]; have := (List.takeWhile_sublist (p := digitB) (l := s.data.toList.drop g)).length_le
              rw [List.length_drop, len_toList] at this; unfold digLen; omega
            have hrg : g + digLen (s.data.toList.drop g) = runEnd s g false := (run_dig s g).symm
            have hsz : (s.extract g (runEnd s g false)).size = digLen (s.data.toList.drop g) := by rw [← hrg]; exact extract_mid_size s g _ (by omega)
            have hV := fun w => refValue_any (s.extract g (runEnd s g false)) w (by omega) (digits_of_run s g)
            have HTx : Hid (s.extract g (runEnd s g false) = ⟨((s.data.toList.drop g).take (digLen (s.data.toList.drop g))).toArray⟩) := by show _ = _; rw [← hrg, extract_mid]
            have hlid : valLid (s.extract g (runEnd s g false)).data.toList = min (valOf (s.extract g (runEnd s g false)).data.toList) 2147483648 := rfl
            have hLt : ∀ w, Calls Tryz.prog 89 #[.int .u8 (s[g].toNat : Nat)] w fun e w' => e = .returned (.bool false) ∧ w' = w := fun w => by rw [← hl]; exact refLetter_any _ _
            have hDt : ∀ w, Calls Tryz.prog 90 #[.int .u8 (s[g].toNat : Nat)] w fun e w' => e = .returned (.bool true) ∧ w' = w := fun w => by rw [← hd]; exact refDigit_any _ _
            by_cases hbig : valOf (s.extract g (runEnd s g false)).data.toList > maxNumber
            · rw [if_pos hbig] at hx
              have HB : Hid (lexAll s.data.toList = .error (3, g)) := by show _ = _; rw [← HL.out]; exact lexGo_bad s ts g 3 hlt hx
              have hvv : (2147483647 : Int) < (valLid (s.extract g (runEnd s g false)).data.toList : Nat) := by rw [hlid]; unfold maxNumber at hbig; omega
              generalize ((valLid (s.extract g (runEnd s g false)).data.toList : Nat) : Int) = vv at *
              generalize s.extract g (runEnd s g false) = tx at *
              clear HL hx hbig hlid hl hd hown HTx hsz hrg hle0
              go_wp2_with (first
                | (go_at_call 88; refine (hSk _).mono ?_; rintro e w1 ⟨rfl, h1⟩; obtain rfl := h1.symm; clear h1)
                | (go_at_call 89; refine (hLt _).mono ?_; rintro e w1 ⟨rfl, h1⟩; obtain rfl := h1.symm; clear h1)
                | (go_at_call 90; refine (hDt _).mono ?_; rintro e w1 ⟨rfl, h1⟩; obtain rfl := h1.symm; clear h1)
                | (go_at_call 91; refine (hAm _).mono ?_; rintro e w1 ⟨rfl, h1⟩; obtain rfl := h1.symm; clear h1)
                | (go_at_call 92; refine (hW _).mono ?_; rintro e w2 ⟨rfl, hb2⟩; obtain ⟨d0, d1, d2, d3, df, dl⟩ := last_kept hb2
                   rw [show (wr.alloc (.cells #[.string ⟨#[43]⟩, .string ⟨#[45]⟩, .string ⟨#[42]⟩, .string ⟨#[47]⟩, .string ⟨#[37]⟩, .string ⟨#[61]⟩, .string ⟨#[35]⟩, .string ⟨#[60]⟩, .string ⟨#[62]⟩, .string ⟨#[40]⟩, .string ⟨#[41]⟩, .string ⟨#[91]⟩, .string ⟨#[93]⟩, .string ⟨#[44]⟩, .string ⟨#[59]⟩, .string ⟨#[46]⟩] 9)).heap.size = wr.heap.size + 1 from by simp] at d0 d1 d2 d3 df dl
                   have hbb : Below wr.heap.size wr w2 := (((Below.refl _ _).alloc (Nat.le_refl _) _).alloc (by simp) _).trans (hb2.mono (by simp; omega))
                   have HB2 : Hid (Below wr.heap.size wr w2) := hbb
                   have df0 := df 0; have df1 := df 1; have df2 := df 2; have df3 := df 3
                   clear hbb hb2 df)
                | (go_at_call 93; refine (hV _).mono ?_; rintro e w9 ⟨rfl, h9⟩
                   obtain ⟨f0, f1, f2, f3, ff, fl, fb⟩ := after_four d0 d1 d2 d3 df0 df1 df2 df3 dl HB2.out (Nat.le_succ _) h9
                   have HB9 : Hid (Below wr.heap.size wr w9) := fb
                   clear h9 fb d0 d1 d2 d3 df0 df1 df2 df3 dl))
              go_ret3
              refine ⟨?_, .inl ⟨3, g, HB.out, rfl⟩⟩
              repeat (refine Below.setCell ?_ (by show w.heap.size ≤ wr.heap.size + 1; omega) _)
              exact hbw.trans (HB9.out.mono hbs)
            · rw [if_neg hbig] at hx
              have HK : Hid (lexGo s (ts ++ [mkTok s.data.toList g (.number, digLen (s.data.toList.drop g), valOf (s.extract g (runEnd s g false)).data.toList)]) (gap s.data.toList (g + digLen (s.data.toList.drop g))) = lexAll s.data.toList) := by show _ = _; rw [← HL.out]; exact lexGo_ok s ts g _ hlt hx
              have hge1 : 1 ≤ digLen (s.data.toList.drop g) := lex1_pos hx
              have hvv : ¬ (2147483647 : Int) < (valLid (s.extract g (runEnd s g false)).data.toList : Nat) := by rw [hlid]; unfold maxNumber at hbig; omega
              have hveq : valLid (s.extract g (runEnd s g false)).data.toList = valOf (s.extract g (runEnd s g false)).data.toList := by rw [hlid]; unfold maxNumber at hbig; omega
              have HT : Hid (tokRC (mkTok s.data.toList g (.number, digLen (s.data.toList.drop g), valOf (s.extract g (runEnd s g false)).data.toList)) = [.int .i64 2, .int .i64 (valLid (s.extract g (runEnd s g false)).data.toList), .int .i64 g, .string (s.extract g (runEnd s g false))]) := by
                show _ = _; rw [hveq]; unfold tokRC mkTok; rw [HTx.out]; rfl
              generalize mkTok s.data.toList g (.number, digLen (s.data.toList.drop g), valOf (s.extract g (runEnd s g false)).data.toList) = tk at *
              generalize ((valLid (s.extract g (runEnd s g false)).data.toList : Nat) : Int) = vv at *
              generalize digLen (s.data.toList.drop g) = n at *
              have hle : g + n ≤ s.size := by omega
              have hsz' : ((s.extract g (runEnd s g false)).size : Int) = n := by omega
              clear hsz hrg
              generalize s.extract g (runEnd s g false) = tx at *
              clear HL hx hbig hlid hl hd HTx hle0 hveq
              go_wp2_with (first
                | (go_at_call 88; refine (hSk _).mono ?_; rintro e w1 ⟨rfl, h1⟩; obtain rfl := h1.symm; clear h1)
                | (go_at_call 89; refine (hLt _).mono ?_; rintro e w1 ⟨rfl, h1⟩; obtain rfl := h1.symm; clear h1)
                | (go_at_call 90; refine (hDt _).mono ?_; rintro e w1 ⟨rfl, h1⟩; obtain rfl := h1.symm; clear h1)
                | (go_at_call 91; refine (hAm _).mono ?_; rintro e w1 ⟨rfl, h1⟩; obtain rfl := h1.symm; clear h1)
                | (go_at_call 92; refine (hW _).mono ?_; rintro e w2 ⟨rfl, hb2⟩; obtain ⟨d0, d1, d2, d3, df, dl⟩ := last_kept hb2
                   rw [show (wr.alloc (.cells #[.string ⟨#[43]⟩, .string ⟨#[45]⟩, .string ⟨#[42]⟩, .string ⟨#[47]⟩, .string ⟨#[37]⟩, .string ⟨#[61]⟩, .string ⟨#[35]⟩, .string ⟨#[60]⟩, .string ⟨#[62]⟩, .string ⟨#[40]⟩, .string ⟨#[41]⟩, .string ⟨#[91]⟩, .string ⟨#[93]⟩, .string ⟨#[44]⟩, .string ⟨#[59]⟩, .string ⟨#[46]⟩] 9)).heap.size = wr.heap.size + 1 from by simp] at d0 d1 d2 d3 df dl
                   have hbb : Below wr.heap.size wr w2 := (((Below.refl _ _).alloc (Nat.le_refl _) _).alloc (by simp) _).trans (hb2.mono (by simp; omega))
                   have HB2 : Hid (Below wr.heap.size wr w2) := hbb
                   have df0 := df 0; have df1 := df 1; have df2 := df 2; have df3 := df 3
                   clear hbb hb2 df)
                | (go_at_call 93; refine (hV _).mono ?_; rintro e w9 ⟨rfl, h9⟩
                   obtain ⟨f0, f1, f2, f3, ff, fl, fb⟩ := after_four d0 d1 d2 d3 df0 df1 df2 df3 dl HB2.out (Nat.le_succ _) h9
                   have HB9 : Hid (Below wr.heap.size wr w9) := fb
                   clear h9 fb d0 d1 d2 d3 df0 df1 df2 df3 dl)
                | (at_builtin; refine wpList_append_own _ rfl _ _ 120 rfl w.heap.size 162 i0 _ 4 40 Tryz.underlying120 hi hz0 hz1 hz2 rfl (by decide) _ ts.length (toksRC ts) rfl ?dgown ⟨_, 0, none⟩ 1 1 [.int .i64 2, .int .i64 vv, .int .i64 g, .string tx] rfl rfl ?dgnew ?dgh1 ?dgh63 ?dghby ?dghbase ?dghh
                   case dgown => exact owns_of_block hown (fun k hk => by
                     have hkl := (hown.lt k hk).2
                     rw [Below.heap_alloc _ _ _ (by simp [World.setCell]; omega)]
                     repeat rw [Below.heap_setCell _ _ _ _ (by show k ≠ wr.heap.size + 1; omega)]
                     exact HB9.out.block k hkl)
                   case dgnew => exact cell_four_at (by simp [World.setCell]) _ _ _ _ _
                   case dgh1 => intro u hu; simp at hu; rcases hu with rfl | rfl | rfl | rfl <;> rfl
                   case dgh63 => unfold maxLen; omega
                   case dghby => omega
                   case dghbase => simp [World.setCell]; omega
                   intro v5 w5 hown' hgrow5 hnil5
                   have hc5 : w5.cell? ⟨wr.heap.size + 1, 3, none⟩ = some (.string tx) := hgrow5.cell (set_one_last f3 _ _) (fun h => by have := (hown.lt _ h.symm).2; simp at this; omega)
                   have hB5 : Below w.heap.size w w5 := by
                     refine Below.grown (?_ : Below w.heap.size w _) hgrow5 (by simp [World.setCell]; omega) (fun k hk => (hown.lt _ hk).1)
                     refine Below.alloc ?_ (by simp [World.setCell]; omega) _
                     repeat (refine Below.setCell ?_ (by show w.heap.size ≤ wr.heap.size + 1; omega) _)
                     exact hbw.trans (HB9.out.mono hbs)
                   have X : Aside (w5.ownsRow w.heap.size 162 4 v5 (ts.length + 1) (toksRC ts ++ [.int .i64 2, .int .i64 vv, .int .i64 g, .string tx]) ∧ Below w.heap.size w w5) := ⟨hown', hB5⟩
                   clear hown' hgrow5 hnil5 hB5))
              go_roundw
              case rel => exact ⟨ts ++ [tk], g + n, hle, by go_num, by rw [toksRC_snoc, List.length_append, HT.out]; exact X.out.1, X.out.2, HK, by rw [List.length_append]; simp; omega⟩
              case measure => simp [intOf]; omega
          | false =>
            have hLt : ∀ w, Calls Tryz.prog 89 #[.int .u8 (s[g].toNat : Nat)] w fun e w' => e = .returned (.bool false) ∧ w' = w := fun w => by rw [← hl]; exact refLetter_any _ _
            have hDt : ∀ w, Calls Tryz.prog 90 #[.int .u8 (s[g].toNat : Nat)] w fun e w' => e = .returned (.bool false) ∧ w' = w := fun w => by rw [← hd]; exact refDigit_any _ _
            by_cases h1 : g + 1 < s.size
            · cases ha : asgB s g with
              | true =>
                obtain ⟨hx, hsg0⟩ := lex_asg s g hlt ⟨h1, ha⟩
                rw [hsg0] at hAm
                have HK : Hid (lexGo s (ts ++ [mkTok s.data.toList g (.sign, 2, 0)]) (gap s.data.toList (g + 2)) = lexAll s.data.toList) := by show _ = _; rw [← HL.out]; exact lexGo_ok s ts g _ hlt hx
                have HT : Hid (tokRC (mkTok s.data.toList g (.sign, 2, 0)) = [.int .i64 3, .int .i64 0, .int .i64 g, .string ⟨#[58, 61]⟩]) := by show _ = _; unfold tokRC mkTok; rw [asg_text s g ha]; rfl
                have hasg : ((s.extract g (g + 2)).toList == [58, 61]) = true := ha
                generalize mkTok s.data.toList g (.sign, 2, 0) = tk at *
                clear HL hx hl hd hsg0 ha
                go_wp2_with (first
                  | (go_at_call 88; refine (hSk _).mono ?_; rintro e w1 ⟨rfl, h1⟩; obtain rfl := h1.symm; clear h1)
                  | (go_at_call 89; refine (hLt _).mono ?_; rintro e w1 ⟨rfl, h1⟩; obtain rfl := h1.symm; clear h1)
                  | (go_at_call 90; refine (hDt _).mono ?_; rintro e w1 ⟨rfl, h1⟩; obtain rfl := h1.symm; clear h1)
                  | (go_at_call 91; refine (hAm _).mono ?_; rintro e w1 ⟨rfl, h1⟩; obtain rfl := h1.symm; clear h1)
                  | (at_builtin; refine wpList_append_own _ rfl _ _ 120 rfl w.heap.size 162 i0 _ 4 40 Tryz.underlying120 hi hz0 hz1 hz2 rfl (by decide) _ ts.length (toksRC ts) rfl ?asown ⟨_, 0, none⟩ 1 1 [.int .i64 3, .int .i64 0, .int .i64 g, .string ⟨#[58, 61]⟩] rfl rfl ?asnew ?ash1 ?ash63 ?ashby ?ashbase ?ashh
                     case asown => exact ((hown.alloc _).alloc _).alloc _
                     case asnew => exact cell_four_at (by simp) _ _ _ _ _
                     case ash1 => intro u hu; simp at hu; rcases hu with rfl | rfl | rfl | rfl <;> rfl
                     case ash63 => unfold maxLen; omega
                     case ashby => omega
                     case ashbase => simp; omega
                     intro v5 w5 hown' hgrow5 hnil5
                     have hc5 : w5.cell? ⟨wr.heap.size + 1, 3, none⟩ = some (.string ⟨#[58, 61]⟩) := hgrow5.cell (alloc3_last _ _ _ _ _ _ _ _) (fun h => by have := (hown.lt _ h.symm).2; simp at this; omega)
                     have hB5 : Below w.heap.size w w5 := by
                       refine Below.grown (?_ : Below w.heap.size w _) hgrow5 (by simp; omega) (fun k hk => (hown.lt _ hk).1)
                       exact (((hbw.alloc hbs _).alloc (by simp; omega) _).alloc (by simp; omega) _)
                     have X : Aside (w5.ownsRow w.heap.size 162 4 v5 (ts.length + 1) (toksRC ts ++ [.int .i64 3, .int .i64 0, .int .i64 g, .string ⟨#[58, 61]⟩]) ∧ Below w.heap.size w w5) := ⟨hown', hB5⟩
                     clear hown' hgrow5 hnil5 hB5))
                go_roundw
                case rel => exact ⟨ts ++ [tk], g + 2, by omega, by go_num, by rw [toksRC_snoc, List.length_append, HT.out]; exact X.out.1, X.out.2, HK, by rw [List.length_append]; simp; omega⟩
                case measure => simp [intOf]; omega
              | false =>
                have hasg : ((s.extract g (g + 2)).toList == [58, 61]) = false := ha
                cases hsg0 : signs.contains s[g] with
                | true =>
                  rw [hsg0] at hAm
                  have hx := lex_sign s g hlt hl hd hsg0
                  have HK : Hid (lexGo s (ts ++ [mkTok s.data.toList g (.sign, 1, 0)]) (gap s.data.toList (g + 1)) = lexAll s.data.toList) := by show _ = _; rw [← HL.out]; exact lexGo_ok s ts g _ hlt hx
                  have HT : Hid (tokRC (mkTok s.data.toList g (.sign, 1, 0)) = [.int .i64 3, .int .i64 0, .int .i64 g, .string (s.extract g (g + 1))]) := by show _ = _; unfold tokRC mkTok; rw [extract_mid]; rfl
                  have hsz' : ((s.extract g (g + 1)).size : Int) = 1 := by have := extract_mid_size s g 1 (by omega); omega
                  generalize mkTok s.data.toList g (.sign, 1, 0) = tk at *
                  clear HL hx hl hd hsg0
                  go_wp2_with (first
                    | (go_at_call 88; refine (hSk _).mono ?_; rintro e w1 ⟨rfl, h1⟩; obtain rfl := h1.symm; clear h1)
                    | (go_at_call 89; refine (hLt _).mono ?_; rintro e w1 ⟨rfl, h1⟩; obtain rfl := h1.symm; clear h1)
                    | (go_at_call 90; refine (hDt _).mono ?_; rintro e w1 ⟨rfl, h1⟩; obtain rfl := h1.symm; clear h1)
                    | (go_at_call 91; refine (hAm _).mono ?_; rintro e w1 ⟨rfl, h1⟩; obtain rfl := h1.symm; clear h1)
                    | (at_builtin; refine wpList_append_own _ rfl _ _ 120 rfl w.heap.size 162 i0 _ 4 40 Tryz.underlying120 hi hz0 hz1 hz2 rfl (by decide) _ ts.length (toksRC ts) rfl ?saown ⟨_, 0, none⟩ 1 1 [.int .i64 3, .int .i64 0, .int .i64 g, .string (s.extract g (g + 1))] rfl rfl ?sanew ?sah1 ?sah63 ?sahby ?sahbase ?sahh
                       case saown => exact ((hown.alloc _).alloc _).alloc _
                       case sanew => exact cell_four_at (by simp) _ _ _ _ _
                       case sah1 => intro u hu; simp at hu; rcases hu with rfl | rfl | rfl | rfl <;> rfl
                       case sah63 => unfold maxLen; omega
                       case sahby => omega
                       case sahbase => simp; omega
                       intro v5 w5 hown' hgrow5 hnil5
                       have hc5 : w5.cell? ⟨wr.heap.size + 1, 3, none⟩ = some (.string (s.extract g (g + 1))) := hgrow5.cell (alloc3_last _ _ _ _ _ _ _ _) (fun h => by have := (hown.lt _ h.symm).2; simp at this; omega)
                       have hB5 : Below w.heap.size w w5 := by
                         refine Below.grown (?_ : Below w.heap.size w _) hgrow5 (by simp; omega) (fun k hk => (hown.lt _ hk).1)
                         exact (((hbw.alloc hbs _).alloc (by simp; omega) _).alloc (by simp; omega) _)
                       have X : Aside (w5.ownsRow w.heap.size 162 4 v5 (ts.length + 1) (toksRC ts ++ [.int .i64 3, .int .i64 0, .int .i64 g, .string (s.extract g (g + 1))]) ∧ Below w.heap.size w w5) := ⟨hown', hB5⟩
                       clear hown' hgrow5 hnil5 hB5))
                  go_roundw
                  case rel => exact ⟨ts ++ [tk], g + 1, by omega, by go_num, by rw [toksRC_snoc, List.length_append, HT.out]; exact X.out.1, X.out.2, HK, by rw [List.length_append]; simp; omega⟩
                  case measure => simp [intOf]; omega
                | false =>
                  rw [hsg0] at hAm
                  have hx := lex_bad s g hlt hl hd (fun h => by rw [ha] at h; exact absurd h.2 (by simp)) hsg0
                  have HB : Hid (lexAll s.data.toList = .error (2, g)) := by show _ = _; rw [← HL.out]; exact lexGo_bad s ts g 2 hlt hx
                  clear HL hx hl hd hsg0
                  go_wp2_with (first
                    | (go_at_call 88; refine (hSk _).mono ?_; rintro e w1 ⟨rfl, h1⟩; obtain rfl := h1.symm; clear h1)
                    | (go_at_call 89; refine (hLt _).mono ?_; rintro e w1 ⟨rfl, h1⟩; obtain rfl := h1.symm; clear h1)
                    | (go_at_call 90; refine (hDt _).mono ?_; rintro e w1 ⟨rfl, h1⟩; obtain rfl := h1.symm; clear h1)
                    | (go_at_call 91; refine (hAm _).mono ?_; rintro e w1 ⟨rfl, h1⟩; obtain rfl := h1.symm; clear h1))
                  go_ret3
                  exact ⟨((hbw.alloc hbs _).alloc (by simp; omega) _), .inl ⟨2, g, HB.out, rfl⟩⟩
            · cases hsg0 : signs.contains s[g] with
              | true =>
                rw [hsg0] at hAm
                have hx := lex_sign s g hlt hl hd hsg0
                have HK : Hid (lexGo s (ts ++ [mkTok s.data.toList g (.sign, 1, 0)]) (gap s.data.toList (g + 1)) = lexAll s.data.toList) := by show _ = _; rw [← HL.out]; exact lexGo_ok s ts g _ hlt hx
                have HT : Hid (tokRC (mkTok s.data.toList g (.sign, 1, 0)) = [.int .i64 3, .int .i64 0, .int .i64 g, .string (s.extract g (g + 1))]) := by show _ = _; unfold tokRC mkTok; rw [extract_mid]; rfl
                have hsz' : ((s.extract g (g + 1)).size : Int) = 1 := by have := extract_mid_size s g 1 (by omega); omega
                generalize mkTok s.data.toList g (.sign, 1, 0) = tk at *
                clear HL hx hl hd hsg0
                go_wp2_with (first
                  | (go_at_call 88; refine (hSk _).mono ?_; rintro e w1 ⟨rfl, h1⟩; obtain rfl := h1.symm; clear h1)
                  | (go_at_call 89; refine (hLt _).mono ?_; rintro e w1 ⟨rfl, h1⟩; obtain rfl := h1.symm; clear h1)
                  | (go_at_call 90; refine (hDt _).mono ?_; rintro e w1 ⟨rfl, h1⟩; obtain rfl := h1.symm; clear h1)
                  | (go_at_call 91; refine (hAm _).mono ?_; rintro e w1 ⟨rfl, h1⟩; obtain rfl := h1.symm; clear h1)
                  | (at_builtin; refine wpList_append_own _ rfl _ _ 120 rfl w.heap.size 162 i0 _ 4 40 Tryz.underlying120 hi hz0 hz1 hz2 rfl (by decide) _ ts.length (toksRC ts) rfl ?sbown ⟨_, 0, none⟩ 1 1 [.int .i64 3, .int .i64 0, .int .i64 g, .string (s.extract g (g + 1))] rfl rfl ?sbnew ?sbh1 ?sbh63 ?sbhby ?sbhbase ?sbhh
                     case sbown => exact ((hown.alloc _).alloc _).alloc _
                     case sbnew => exact cell_four_at (by simp) _ _ _ _ _
                     case sbh1 => intro u hu; simp at hu; rcases hu with rfl | rfl | rfl | rfl <;> rfl
                     case sbh63 => unfold maxLen; omega
                     case sbhby => omega
                     case sbhbase => simp; omega
                     intro v5 w5 hown' hgrow5 hnil5
                     have hc5 : w5.cell? ⟨wr.heap.size + 1, 3, none⟩ = some (.string (s.extract g (g + 1))) := hgrow5.cell (alloc3_last _ _ _ _ _ _ _ _) (fun h => by have := (hown.lt _ h.symm).2; simp at this; omega)
                     have hB5 : Below w.heap.size w w5 := by
                       refine Below.grown (?_ : Below w.heap.size w _) hgrow5 (by simp; omega) (fun k hk => (hown.lt _ hk).1)
                       exact (((hbw.alloc hbs _).alloc (by simp; omega) _).alloc (by simp; omega) _)
                     have X : Aside (w5.ownsRow w.heap.size 162 4 v5 (ts.length + 1) (toksRC ts ++ [.int .i64 3, .int .i64 0, .int .i64 g, .string (s.extract g (g + 1))]) ∧ Below w.heap.size w w5) := ⟨hown', hB5⟩
                     clear hown' hgrow5 hnil5 hB5))
                go_roundw
                case rel => exact ⟨ts ++ [tk], g + 1, by omega, by go_num, by rw [toksRC_snoc, List.length_append, HT.out]; exact X.out.1, X.out.2, HK, by rw [List.length_append]; simp; omega⟩
                case measure => simp [intOf]; omega
              | false =>
                rw [hsg0] at hAm
                have hx := lex_bad s g hlt hl hd (fun h => h1 h.1) hsg0
                have HB : Hid (lexAll s.data.toList = .error (2, g)) := by show _ = _; rw [← HL.out]; exact lexGo_bad s ts g 2 hlt hx
                clear HL hx hl hd hsg0
                go_wp2_with (first
                  | (go_at_call 88; refine (hSk _).mono ?_; rintro e w1 ⟨rfl, h1⟩; obtain rfl := h1.symm; clear h1)
                  | (go_at_call 89; refine (hLt _).mono ?_; rintro e w1 ⟨rfl, h1⟩; obtain rfl := h1.symm; clear h1)
                  | (go_at_call 90; refine (hDt _).mono ?_; rintro e w1 ⟨rfl, h1⟩; obtain rfl := h1.symm; clear h1)
                  | (go_at_call 91; refine (hAm _).mono ?_; rintro e w1 ⟨rfl, h1⟩; obtain rfl := h1.symm; clear h1))
                go_ret3
                exact ⟨((hbw.alloc hbs _).alloc (by simp; omega) _), .inl ⟨2, g, HB.out, rfl⟩⟩
    · simp only [dif_neg hlt] at hSk
      have hge : ((g : Int) == s.size) = true := by simp; omega
      have hgs : g = s.size := by omega
      have HE : Hid (lexAll s.data.toList = .ok (ts ++ [overTok s.data.toList])) := by show _ = _; rw [← HL.out]; exact lexGo_end s ts g hlt
      have HO : Hid (tokRC (overTok s.data.toList) = [.int .i64 4, .int .i64 0, .int .i64 g, .string ⟨#[]⟩]) := by show _ = _; rw [hgs]; rfl
      clear HL hgs
      go_wp2_with (first
        | (go_at_call 88; refine (hSk _).mono ?_; rintro e w1 ⟨rfl, h1⟩; obtain rfl := h1.symm; clear h1)
        | (at_builtin; refine wpList_append_own _ rfl _ _ 120 rfl w.heap.size 162 i0 _ 4 40 Tryz.underlying120 hi hz0 hz1 hz2 rfl (by decide) _ ts.length (toksRC ts) rfl (hown.alloc _) ⟨_, 0, none⟩ 1 1 [.int .i64 4, .int .i64 0, .int .i64 g, .string ⟨#[]⟩] rfl rfl (cell_four_new _ _ _ _ _ _) ?e1 ?e63 ?eby ?ebase ?eh
           case e1 => intro u hu; simp at hu; rcases hu with rfl | rfl | rfl | rfl <;> rfl
           case e63 => unfold maxLen; omega
           case eby => omega
           case ebase => simp; omega
           intro v5 w5 hown' hgrow5 hnil5
           have hB5 : Below w.heap.size w w5 := Below.grown (hbw.alloc hbs _) hgrow5 (by simp; omega) (fun k hk => (hown.lt _ hk).1)
           have X : Aside (w5.ownsRow w.heap.size 162 4 v5 (ts.length + 1) (toksRC ts ++ [.int .i64 4, .int .i64 0, .int .i64 g, .string ⟨#[]⟩]) ∧ Below w.heap.size w w5) := ⟨hown', hB5⟩
           clear hown' hgrow5 hnil5 hB5))
      go_ret3
      exact ⟨X.out.2, .inr ⟨_, _, HE.out, rfl, by rw [toksRC_snoc, List.length_append, HO.out]; exact X.out.1⟩⟩

end Go.Proofs.YtklobognaldjpaaGreat
