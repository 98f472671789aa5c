/- The reference's walk: how many names stand with commas between them. -/
import Derived.Test.YtklobognaldjpaaGreatCDcl4
namespace Go.Proofs.YtklobognaldjpaaGreat
open Go.RowKit

section
variable {wb tb cap : Nat} {T : List Tok} {m : Option Nm} {w w0 : World} {s : PS}

theorem countGo_no {t : Tok} {l : List Tok} {n : Nat} (h : ¬ t.kind = .name) : countGo (t :: l) n = n := by
  cases l with
  | nil => rfl
  | cons u r => rw [countGo, if_neg h]

theorem countGo_one {t u : Tok} {r : List Tok} {n : Nat} (h : t.kind = .name) (hu : isComma u = false) : countGo (t :: u :: r) n = n + 1 := by
  rw [countGo, if_pos h, if_neg (by rw [hu]; simp)]

theorem countGo_more {t u : Tok} {r : List Tok} {n : Nat} (h : t.kind = .name) (hu : isComma u = true) : countGo (t :: u :: r) n = countGo r (n + 1) := by
  rw [countGo, if_pos h, if_pos hu]

set_option maxRecDepth 100000 in
set_option maxHeartbeats 1000000 in
theorem count_any (hT : Toks T) (h : RW wb tb cap T m w s) (hg : Good T s) :
    Calls Tryz.prog 127 #[.pointer (some ⟨wb, 0, none⟩), .int .i64 s.next] w fun e w' => e = .returned (.int .i64 (countT T s : Nat)) ∧ w' = w := by
  have ht := h.toks
  have hsz := h.size
  have HT : Hid (∀ k, k < T.length → w.cell? ⟨tb, k * 4, none⟩ = some (.int .i64 (T.getD k default).kind.r) ∧ w.cell? ⟨tb, k * 4 + 3, none⟩ = some (.string (T.getD k default).text)) := by
    show ∀ k, _
    intro k hk
    have := (h.at k).curCells (s := { s with next := k }) hk
    exact ⟨this.1, this.2.2.2⟩
  have hg' : s.next < T.length := hg
  go_enter Tryz.func127, Tryz.ntmps127
  go_wp2
  go_loop [1, 5] (fun i a => ∃ (kk aa : Nat), i = .int .i64 kk ∧ a = .int .i64 aa ∧ kk < T.length ∧ aa ≤ kk ∧ Hid (countGo (T.drop kk) aa = countT T s)) (fun i _ => T.length - (intOf i).toNat)
  case atStart => exact ⟨s.next, 0, rfl, rfl, hg', by omega, rfl⟩
  case round =>
    obtain ⟨kk, aa, rfl, rfl, hkk, haa, HC⟩ := hrel
    obtain ⟨c0, _⟩ := HT.out kk hkk
    have hki : (kk : Int) < T.length := by omega
    have hd : T.drop kk = T.getD kk default :: T.drop (kk + 1) := drop_cons hkk
    have hk1 := r_one (T.getD kk default).kind
    by_cases hn : (T.getD kk default).kind = .name
    · have hk2 : kindIs T .name ⟨0, 0, kk⟩ = true := by simp only [kindIs, cur, hn, decide_true]
      have hk3 : kk + 1 < T.length := good_adv_kind hT (s := ⟨0, 0, kk⟩) hkk hk2 (by decide)
      obtain ⟨_, c3⟩ := HT.out (kk + 1) hk3
      have hki2 : (kk : Int) + 1 < T.length := by omega
      have hd2 : T.drop (kk + 1) = T.getD (kk + 1) default :: T.drop (kk + 2) := drop_cons hk3
      rw [hn] at c0
      simp only [TK.r] at c0
      cases hu : isComma (T.getD (kk + 1) default) with
      | true =>
        have hk4 : kk + 2 < T.length := by
          have hu2 : sees T (bs [44]) ⟨0, 0, kk + 1⟩ = true := hu
          exact good_adv hT (s := ⟨0, 0, kk + 1⟩) hk3 hu2 (bs_ne _ (by simp))
        have hx : ((T.getD (kk + 1) default).text.toList == ([44] : List UInt8)) = true := by unfold isComma at hu; rw [bsl] at hu; exact hu
        have HC2 : Hid (countGo (T.drop (kk + 2)) (aa + 1) = countT T s) := by show _ = _; rw [← HC.out, hd, hd2, countGo_more hn hu]
        clear HC hd hd2 hk1 hn hk2 hu
        generalize T.getD (kk + 1) default = u at *
        go_wp2
        go_round
        case rel => exact ⟨kk + 2, aa + 1, by go_num, by go_num, hk4, by omega, HC2⟩
        case measure => simp [intOf]; omega
      | false =>
        have hx : ((T.getD (kk + 1) default).text.toList == ([44] : List UInt8)) = false := by unfold isComma at hu; rw [bsl] at hu; exact hu
        have HC2 : Hid (countT T s = aa + 1) := by show _ = _; rw [← HC.out, hd, hd2, countGo_one hn hu]
        clear HC hd hd2 hk1 hn hk2 hu
        generalize T.getD (kk + 1) default = u at *
        go_wp2
        go_ret
        exact ⟨by rw [HC2.out]; go_num, rfl⟩
    · have hne : ((T.getD kk default).kind.r == 1) = false := by rw [hk1]; simpa using hn
      have HC2 : Hid (countT T s = aa) := by show _ = _; rw [← HC.out, hd, countGo_no hn]
      clear HC hd hk1 hn
      generalize (T.getD kk default).kind.r = kr at *
      go_wp2
      go_ret
      exact ⟨by rw [HC2.out]; rfl, rfl⟩

end

end Go.Proofs.YtklobognaldjpaaGreat
