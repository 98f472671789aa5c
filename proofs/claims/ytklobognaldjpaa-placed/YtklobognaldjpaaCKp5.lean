/- What package lecternkeep does: reading, Placed. For every list of numbers and every number, lecternkeep.Placed returns true: what is wrong is told where it is. No condition. -/
import Derived.Test.YtklobognaldjpaaCKp3
import Derived.Test.YtklobognaldjpaaCChk1
import Derived.Test.YtklobognaldjpaaCEv2
import Derived.Test.YtklobognaldjpaaRows
import Derived.WalkKit
import Derived.ProofKit
import Derived.OpenShut
import Derived.ShutString
import Derived.ChangeOld
import Derived.ChangeSlices
import Derived.Below
namespace Go.Proofs.Ytklobognaldjpaa
open Go.RowKit

theorem chk_at {l : List UInt8} {a b : Nat} (h : checkP l = (a, b)) (w : World) :
    Calls Try.prog 8 #[.string ⟨l.toArray⟩] w fun e w' => e = .returned (.tuple #[.int .i64 (a : Nat), .int .i64 (b : Nat)]) ∧ Below w.heap.size w w' := by
  have := progCheck ⟨l.toArray⟩ w
  have e : (⟨l.toArray⟩ : ByteArray).data.toList = l := rfl
  rw [e, h] at this
  exact this

set_option maxRecDepth 1000000 in
set_option maxHeartbeats 1000000 in
theorem reading_any (w : World) : Calls Try.prog 4 #[] w fun e w' => e = .returned (.bool true) ∧ Below w.heap.size w w' := by
  have h1 := fun W => chk_at ex_name W
  have h2 := fun W => chk_at ex_end W
  have h3 := fun W => chk_at ex_what W
  have h4 := fun W => chk_at ex_ok W
  go_enter Try.func4, Try.ntmps4
  go_wp2_with (first
    | (go_at_call 8; have _q := hb3; refine (h4 _).mono ?_; rintro e w4 ⟨rfl, hb4⟩)
    | (go_at_call 8; have _q := hb2; refine (h3 _).mono ?_; rintro e w3 ⟨rfl, hb3⟩)
    | (go_at_call 8; have _q := hb1; refine (h2 _).mono ?_; rintro e w2 ⟨rfl, hb2⟩)
    | (go_at_call 8; refine (h1 _).mono ?_; rintro e w1 ⟨rfl, hb1⟩))
  go_ret
  have s1 := hb1.size
  have s2 := hb2.size
  have s3 := hb3.size
  exact ⟨rfl, hb1.trans ((hb2.mono s1).trans ((hb3.mono (by omega)).trans (hb4.mono (by omega))))⟩

theorem IntsAt.below {w w' : World} {v : Value} {zs : List Int} (h : IntsAt w v zs) (hb : Below w.heap.size w w') : IntsAt w' v zs := by
  obtain ⟨a, cap, rfl, h1, h2, h3⟩ := h
  refine ⟨a, cap, rfl, h1, h2, ?_⟩
  rcases h3 with h3 | ⟨b, off, rfl, hl, h3⟩
  · exact .inl h3
  · refine .inr ⟨b, off, rfl, Nat.lt_of_lt_of_le hl hb.size, fun i hi => ?_⟩
    rw [hb.cell (p := ⟨b, off + i, none⟩) hl]
    exact h3 i hi

theorem WordsAt.below {w w' : World} {b : Nat} {ws : List (List UInt8)} (h : WordsAt w b ws) (hl : b < w.heap.size) (hb : Below w.heap.size w w') : WordsAt w' b ws := fun j t hj => by
  rw [hb.cell (p := ⟨b, j, none⟩) hl]; exact h j t hj

theorem WordsAt.take {w : World} {b : Nat} {ws : List (List UInt8)} (h : WordsAt w b ws) (k : Nat) : WordsAt w b (ws.take k) := fun j t hj => by
  rw [List.getElem?_take] at hj
  split at hj
  · exact h j t hj
  · cases hj

theorem words_from {w : World} {b : Nat} {ws : List (List UInt8)} (h : WordsAt w b ws) (k : Nat) : ∀ j u, ((ws.drop k).map strV)[j]? = some u → w.cell? ((⟨b, k, none⟩ : Addr).add j) = some u := by
  intro j u hj
  rw [List.getElem?_map, List.getElem?_drop] at hj
  cases ht : ws[k + j]? with
  | none => rw [ht] at hj; cases hj
  | some t =>
    rw [ht] at hj
    cases hj
    have := h (k + j) t ht
    cases j with
    | zero => simpa [Addr.add] using this
    | succ j => simpa [Addr.add] using this

theorem words_at2 {w : World} {base : Nat} {v : Value} {ws : List (List UInt8)} (h : w.ownsRow base 9 1 v ws.length (ws.map strV)) (hp : 0 < ws.length) :
    ∃ b cap, v = .slice (some ⟨b, 0, none⟩) ws.length cap ∧ ws.length ≤ cap ∧ b < w.heap.size ∧ WordsAt w b ws := by
  obtain ⟨b, cap, rfl, h1, _, h2⟩ := words_at h (List.length_pos_iff.1 hp)
  refine ⟨b, cap, rfl, ?_, h1, h2⟩
  rcases h.2 with ⟨h3, _⟩ | ⟨g, c, cur, h3, _, _, h4, _⟩
  · cases h3
  · cases h3; exact h4

set_option maxRecDepth 1000000 in
set_option maxHeartbeats 2000000 in
theorem Placed_any (v : Value) (zs : List Int) (at_ : Int) (w : World) (hin : IntsAt w v zs) (h1 : -9223372036854775808 ≤ at_) (h2 : at_ ≤ 9223372036854775807) :
    Calls Try.prog 3 #[v, .int .i64 at_] w fun e w' => e = .returned (.bool true) ∧ Below w.heap.size w w' := by
  obtain ⟨i0, hi, hz0, hz1, hz2⟩ := info_parts Try.infoStr
  obtain ⟨hks, hlen⟩ := lesKs_ok zs
  have hcount := join_count (lesW (lesKs zs))
  have hvne : ∀ t ∈ lesW (lesKs zs), t ≠ [] := fun t ht => voc_ne t (les_voc hks t ht)
  have hpos : 0 < (lesW (lesKs zs)).length := by unfold lesW; simp [hdrW]
  have hne : lesW (lesKs zs) ≠ [] := List.length_pos_iff.1 hpos
  have hkk := pickI_lt at_ (n := (lesW (lesKs zs)).length) hpos
  obtain ⟨k, hk, hkl⟩ : ∃ k : Nat, pickI at_ (lesW (lesKs zs)).length = k ∧ k < (lesW (lesKs zs)).length := ⟨(pickI at_ (lesW (lesKs zs)).length).toNat, by omega, hkk.1⟩
  obtain ⟨q, hq, hql⟩ : ∃ q : Nat, pickI at_ 1000 = q ∧ q < 1000 := ⟨(pickI at_ 1000).toNat, by have := (pickI_lt at_ (n := 1000) (by omega)).2.1; simp at this; omega, (pickI_lt at_ (n := 1000) (by omega)).1⟩
  have htl := join_take_le (lesW (lesKs zs)) k
  have hwl := join_what_le (lesW (lesKs zs)) hvne hkl
  have cWhole := check_whole hks hlen
  have cCut := check_cut hks hkl (by omega)
  have cWhat := check_what hks (c := k) ((lesW (lesKs zs)).drop (k + 1)) (by omega)
  have hP1 := fun W => pick_any at_ (lesW (lesKs zs)).length W h1 h2 (by omega) (by omega)
  have hP2 := fun W => pick_any at_ 1000 W h1 h2 (by omega) (by omega)
  have hDg := fun W => digits_any q W (by omega)
  rw [hk] at hP1
  rw [hq] at hP2
  have hRd := fun W => reading_any W
  have hLs := fun W (h : Below w.heap.size w W) => lesson_any v zs W (hin.below h)
  have hwl2 : (joinG [32] ((lesW (lesKs zs)).take k ++ [63] :: (lesW (lesKs zs)).drop (k + 1))).length ≤ 600 := by unfold joinW at hwl hlen; omega
  have hjl : (joinG [32] (lesW (lesKs zs))).length ≤ 600 := hlen
  have hjt : (joinG [32] ((lesW (lesKs zs)).take k)).length ≤ 600 := by unfold joinW at htl; omega
  clear hkk hvne hq hk hwl htl hlen
  obtain ⟨a0, cap0, rfl, hin0⟩ := hin
  clear hin0
  have C1 := fun W => chk_at cWhat W
  have C2 := fun W => chk_at cCut W
  have C3 := fun W => chk_at (ex_unk hql) W
  have C4 := fun W => chk_at ex_args W
  have C5 := fun W => chk_at cWhole W
  clear cWhat cCut cWhole
  have hcl : (lesW (lesKs zs)).length ≤ 601 := by unfold joinW at hcount; omega
  have hLs2 := hLs
  clear hLs hcount
  unfold joinW at C1 C2 C5
  generalize lesW (lesKs zs) = ws at *
  have htk : (ws.take k).length = k := by rw [List.length_take]; omega
  have hdk : (ws.drop (k + 1)).length = ws.length - (k + 1) := by rw [List.length_drop]
  have e0 : (if ws.take k = [] then 0 else 1) = if k = 0 then 0 else 1 := by
    by_cases h : k = 0
    · subst h; simp
    · rw [if_neg h, if_neg]; intro e; rw [e] at htk; simp at htk; omega
  rw [e0] at C1
  have hml : (ws.take k ++ [63] :: ws.drop (k + 1)).length = ws.length := by rw [List.length_append, List.length_cons, htk, hdk]; omega
  have Jn := fun (lb c : Nat) (W : World) => joined_any lb c ws [32] W (by omega) (by omega)
  have Jk := fun (lb c : Nat) (W : World) => joined_any lb c (ws.take k) [32] W (by rw [List.length_take]; omega) (by omega)
  have Jm := fun (lb c : Nat) (W : World) => joined_any lb c (ws.take k ++ [63] :: ws.drop (k + 1)) [32] W (by omega) (by omega)
  rw [htk] at Jk
  rw [hml] at Jm
  have HTK : Hid ((ws.take k).length = k) := htk
  have HDK : Hid ((ws.drop (k + 1)).length = ws.length - (k + 1)) := hdk
  have HML : Hid ((ws.take k ++ [63] :: ws.drop (k + 1)).length = ws.length) := hml
  clear htk hdk hml e0 hne hks
  generalize joinG [32] ws = Sw at *
  generalize joinG [32] (ws.take k) = Sk at *
  generalize joinG [32] (ws.take k ++ [63] :: ws.drop (k + 1)) = Sm at *
  unfold strV at Jn Jk Jm
  have hki : (k : Int) < ws.length := by omega
  have hdl : (digL q).length ≤ 20 := digF_len 20 q
  rw [← str_add, ← str_add] at C3
  unfold unkA unkB at C3
  unfold argsL at C4
  by_cases hk0 : 0 < k
  all_goals
    first
      | (have hki0 : (0 : Int) < k := by omega
         rw [if_neg (by omega)] at C1)
      | (have hki0 : ¬ (0 : Int) < k := by omega
         rw [if_pos (by omega)] at C1)
    go_enter Try.func3, Try.ntmps3
    go_upto_region 10 with (first
      | (go_at_call 4; refine (hRd _).mono ?_; rintro e wa ⟨rfl, hba⟩)
      | (go_at_call 5; refine (hLs2 _ hba).mono ?_; rintro e wl ⟨hbl, vl, rfl, hown⟩; obtain ⟨lb, lc, rfl, hlc, hlb, hWA⟩ := words_at2 hown hpos)
      | (go_at_call 6; refine (hP1 _).mono ?_; rintro e wp ⟨rfl, h9⟩; cases h9)
      | (go_at_call 7; refine (Jk lb lc _ (hWA.take k)).mono ?_; rintro e wj ⟨rfl, h9⟩; cases h9)
      | (at_builtin; have _q := X1; refine wpList_append_own _ rfl _ _ 24 rfl wl.heap.size 9 i0 _ 1 16 Try.underlying24 hi hz0 hz1 hz2 rfl (by decide) _ _ _ rfl (X1.out.1.alloc _) ⟨_, 0, none⟩ 1 1 [strV [63]] rfl rfl (cell_one_new _ _ _) (strs_one [[63]]) (by unfold maxLen; omega) (by omega) (by have := X1.out.2.size; simp; omega) ?_
         intro v2 w2 hown2 hg2 hnil2
         have hb2 : Below wl.heap.size wl w2 := Below.grown (X1.out.2.alloc X1.out.2.size _) hg2 (by have := X1.out.2.size; simp; omega) (fun k hk => (X1.out.1.lt _ hk).1)
         have X2 : Aside (w2.ownsRow wl.heap.size 9 1 v2 (0 + k + 1) ([] ++ (ws.take k).map strV ++ [strV [63]]) ∧ Below wl.heap.size wl w2) := ⟨hown2, hb2⟩
         clear hown2 hg2 hnil2 hb2)
      | (at_builtin; refine wpList_append_own _ rfl _ _ 24 rfl wl.heap.size 9 i0 _ 1 16 Try.underlying24 hi hz0 hz1 hz2 rfl (by decide) _ _ _ rfl (World.ownsRow_nil _ _ _ _) ⟨lb, 0, none⟩ k lc ((ws.take k).map strV) rfl (by rw [List.length_map, HTK.out]; simp) (words_cells (hWA.take k)) (strs_one _) (by unfold maxLen; omega) (by omega) (by omega) ?_
         intro v1 w1 hown1 hg1 hnil1
         have hb1 : Below wl.heap.size wl w1 := Below.grown (Below.refl _ _) hg1 (Nat.le_refl _) (fun k hk => by cases hk)
         have X1 : Aside (w1.ownsRow wl.heap.size 9 1 v1 (0 + k) ([] ++ (ws.take k).map strV) ∧ Below wl.heap.size wl w1) := ⟨hown1, hb1⟩
         clear hown1 hg1 hnil1 hb1))
    have hWA2 := hWA.below hlb X2.out.2
    have hlb2 : lb < w2.heap.size := Nat.lt_of_lt_of_le hlb X2.out.2.size
    have hs2 := X2.out.2.size
    by_cases hlc1 : lc = k + 1
    · have hwk : ws.length = k + 1 := by omega
      have hdn : ws.drop (k + 1) = [] := List.drop_of_length_le (by omega)
      have HDN : Hid (ws.drop (k + 1) = []) := hdn
      have HWK : Hid (ws.length - (k + 1) = 0) := by show _ = _; omega
      clear hdn hwk
      subst hlc1
      go_upto_region 11 with (first
        | (at_builtin; refine wpList_append_own _ rfl _ _ 24 rfl wl.heap.size 9 i0 _ 1 16 Try.underlying24 hi hz0 hz1 hz2 rfl (by decide) _ _ _ rfl X2.out.1 ⟨lb, 0, none⟩ _ _ (List.map strV []) rfl (by first | rfl | (rw [HWK.out]; rfl)) (by intro j u hj; cases hj) (strs_one _) (by unfold maxLen; omega) (by omega) (by omega) ?_
           intro v3 w3 hown3 hg3 hnil3
           have hb3 : Below wl.heap.size wl w3 := Below.grown X2.out.2 hg3 hs2 (fun k hk => (X2.out.1.lt _ hk).1)
           have X3 : Aside (w3.ownsRow wl.heap.size 9 1 v3 (ws.take k ++ [63] :: ws.drop (k + 1)).length ((ws.take k ++ [63] :: ws.drop (k + 1)).map strV) ∧ Below wl.heap.size wl w3) := ⟨owns_map hown3 (by rw [HML.out]; omega) (by simp [HDN.out]), hb3⟩
           clear hown3 hg3 hnil3 hb3))
      obtain ⟨mb, mc, hv3, hmc, hmb, hWm⟩ := words_at2 X3.out.1 (by rw [HML.out]; omega)
      rw [HML.out] at hv3
      subst hv3
      have hs3 := X3.out.2.size
      go_wp2_with (first
        | (go_at_call 8; have _q := mk4; refine (C5 _).mono ?_; rintro e c5 ⟨rfl, hc5⟩; have B5 : Hid (Below wl.heap.size wl c5) := B4.trans (hc5.mono B4.size))
        | (go_at_call 7; have _q := B4; refine (Jn lb _ _ (hWA.below hlb B4)).mono ?_; rintro e wj ⟨rfl, h9⟩; cases h9; have mk4 : Hid True := trivial)
        | (go_at_call 8; have _q := B3; refine (C4 _).mono ?_; rintro e c4 ⟨rfl, hc4⟩; have B4 : Below wl.heap.size wl c4 := B3.trans (hc4.mono B3.size))
        | (go_at_call 8; have _q := Bd; refine (C3 _).mono ?_; rintro e c3 ⟨rfl, hc3⟩; have B3 : Below wl.heap.size wl c3 := Bd.trans (hc3.mono Bd.size))
        | (go_at_call 9; refine (hDg _).mono ?_; rintro e cd ⟨rfl, hcd⟩; have Bd : Below wl.heap.size wl cd := B2.trans (hcd.mono B2.size))
        | (go_at_call 6; refine (hP2 _).mono ?_; rintro e wp ⟨rfl, h9⟩; cases h9)
        | (go_at_call 8; have _q := mk3; refine (C2 _).mono ?_; rintro e c2 ⟨rfl, hc2⟩; have B2 : Below wl.heap.size wl c2 := B1.trans (hc2.mono B1.size))
        | (go_at_call 7; have _q := B1; refine (Jk lb _ _ ((hWA.below hlb B1).take k)).mono ?_; rintro e wj ⟨rfl, h9⟩; cases h9; have mk3 : Hid True := trivial)
        | (go_at_call 8; refine (C1 _).mono ?_; rintro e c1 ⟨rfl, hc1⟩; have B1 : Below wl.heap.size wl c1 := X3.out.2.trans (hc1.mono hs3))
        | (go_at_call 7; refine (Jm mb mc _ hWm).mono ?_; rintro e wj ⟨rfl, h9⟩; cases h9))
      go_ret
      exact ⟨rfl, hba.trans ((hbl.mono hba.size).trans (B5.out.mono (Nat.le_trans hba.size hbl.size)))⟩
    · have hlc2 : k + 1 < lc := by omega
      go_upto_region 11 with (first
        | (at_builtin; refine wpList_append_own _ rfl _ _ 24 rfl wl.heap.size 9 i0 _ 1 16 Try.underlying24 hi hz0 hz1 hz2 rfl (by decide) _ _ _ rfl X2.out.1 ⟨lb, k + 1, none⟩ (ws.length - (k + 1)) (lc - (k + 1)) ((ws.drop (k + 1)).map strV) rfl (by rw [List.length_map, HDK.out]; simp) (words_from hWA2 (k + 1)) (strs_one _) (by unfold maxLen; omega) (by omega) (by omega) ?_
           intro v3 w3 hown3 hg3 hnil3
           have hb3 : Below wl.heap.size wl w3 := Below.grown X2.out.2 hg3 hs2 (fun k hk => (X2.out.1.lt _ hk).1)
           have X3 : Aside (w3.ownsRow wl.heap.size 9 1 v3 (ws.take k ++ [63] :: ws.drop (k + 1)).length ((ws.take k ++ [63] :: ws.drop (k + 1)).map strV) ∧ Below wl.heap.size wl w3) := ⟨owns_map hown3 (by rw [HML.out]; omega) (by simp), hb3⟩
           clear hown3 hg3 hnil3 hb3))
      obtain ⟨mb, mc, hv3, hmc, hmb, hWm⟩ := words_at2 X3.out.1 (by rw [HML.out]; omega)
      rw [HML.out] at hv3
      subst hv3
      have hs3 := X3.out.2.size
      go_wp2_with (first
        | (go_at_call 8; have _q := mk4; refine (C5 _).mono ?_; rintro e c5 ⟨rfl, hc5⟩; have B5 : Hid (Below wl.heap.size wl c5) := B4.trans (hc5.mono B4.size))
        | (go_at_call 7; have _q := B4; refine (Jn lb _ _ (hWA.below hlb B4)).mono ?_; rintro e wj ⟨rfl, h9⟩; cases h9; have mk4 : Hid True := trivial)
        | (go_at_call 8; have _q := B3; refine (C4 _).mono ?_; rintro e c4 ⟨rfl, hc4⟩; have B4 : Below wl.heap.size wl c4 := B3.trans (hc4.mono B3.size))
        | (go_at_call 8; have _q := Bd; refine (C3 _).mono ?_; rintro e c3 ⟨rfl, hc3⟩; have B3 : Below wl.heap.size wl c3 := Bd.trans (hc3.mono Bd.size))
        | (go_at_call 9; refine (hDg _).mono ?_; rintro e cd ⟨rfl, hcd⟩; have Bd : Below wl.heap.size wl cd := B2.trans (hcd.mono B2.size))
        | (go_at_call 6; refine (hP2 _).mono ?_; rintro e wp ⟨rfl, h9⟩; cases h9)
        | (go_at_call 8; have _q := mk3; refine (C2 _).mono ?_; rintro e c2 ⟨rfl, hc2⟩; have B2 : Below wl.heap.size wl c2 := B1.trans (hc2.mono B1.size))
        | (go_at_call 7; have _q := B1; refine (Jk lb _ _ ((hWA.below hlb B1).take k)).mono ?_; rintro e wj ⟨rfl, h9⟩; cases h9; have mk3 : Hid True := trivial)
        | (go_at_call 8; refine (C1 _).mono ?_; rintro e c1 ⟨rfl, hc1⟩; have B1 : Below wl.heap.size wl c1 := X3.out.2.trans (hc1.mono hs3))
        | (go_at_call 7; refine (Jm mb mc _ hWm).mono ?_; rintro e wj ⟨rfl, h9⟩; cases h9))
      go_ret
      exact ⟨rfl, hba.trans ((hbl.mono hba.size).trans (B5.out.mono (Nat.le_trans hba.size hbl.size)))⟩

end Go.Proofs.Ytklobognaldjpaa

namespace Go.Proofs.Ytklobognaldjpaa
open Go.ChangeShapes Go.WideShapes Go.ChangeAt Go.RowKit
open Go.ChangeMaps (open_string shut_string)

theorem row_own : ownKnob Try.prog.godebug = none := by kernel_rfl
theorem row_laidOut : laidOutB Try.prog = true := by kernel_rfl

/-- A list of numbers that came in. -/
theorem ints_in {W : World} {a : Option Addr} {len cap : Nat} {zs : List Int}
    (h : (a = none ∧ len = 0 ∧ cap = 0) ∨ ∃ x, a = some x ∧ len ≤ cap ∧ cap ≤ maxLen ∧ zs.length = cap ∧ (∀ i, i < zs.length → W.cell? (x.add i) = some (.int .i64 (zs.getD i 0))) ∧ ∀ n ∈ zs, (Lit.int .i64 n).wf = true) :
    ∃ ys, IntsAt W (.slice a len cap) ys := by
  rcases h with ⟨rfl, rfl, rfl⟩ | ⟨x, rfl, hl, hm, hz, hcell, hwf⟩
  · exact ⟨[], none, 0, rfl, by simp, by simp, .inl rfl⟩
  · have hlen : (zs.take len).length = len := by rw [List.length_take]; omega
    refine ⟨zs.take len, some x, cap, by rw [hlen], by omega, fun n hn => bounds_i64 (hwf n (List.mem_of_mem_take hn)), ?_⟩
    by_cases h0 : len = 0
    · exact .inl (by rw [h0]; rfl)
    · obtain ⟨b, off, spot⟩ := x
      have hc := hcell 0 (by omega)
      have hspot : spot = none := by simpa [Addr.add] using World.cell?_spot hc
      subst hspot
      have hcells : ∀ i, i < (zs.take len).length → W.cell? ⟨b, off + i, none⟩ = some (.int .i64 ((zs.take len).getD i 0)) := by
        intro i hi
        rw [hlen] at hi
        have h1 := hcell i (by omega)
        have e : (zs.take len).getD i 0 = zs.getD i 0 := by simp [List.getD, hi]
        rw [e]
        cases i with
        | zero => simpa [Addr.add] using h1
        | succ i => simpa [Addr.add] using h1
      refine .inr ⟨b, off, rfl, ?_, hcells⟩
      have h1 := hcells 0 (by omega)
      exact lt_of_cell h1

set_option maxRecDepth 100000 in
theorem row_lifted (os : Os) (started : os.Started) (H : Type) (enc : TypeId × Value → H) :
    ReturnsInHanded {} Try.checked os 3 .any (Rows.placedSpec.pre6 enc Try.prog Try.f3 Rows.placedRow.domain false) (Rows.placedSpec.post enc Try.prog Try.f3 false true false false) := by
  refine returnsInHanded_of_change (C := Try.checked) row_own started (by kernel_rfl) Try.func3
    (ChangeSpec.witness6 (enc := enc) (C := Try.checked) false ⟨#[], #[.slice none 0 0, .int .i64 0], []⟩ 8 (by kernel_rfl) (by kernel_rfl) (by kernel_rfl) (by kernel_rfl)) ?_
  intro W base args ds gs before hval0 hW hcnd _
  have hval : ∀ (j : Nat) t v, Try.f3.params[j]? = some t → args[j]? = some v → Value.okWide Try.prog W .any base t v := hval0
  have hW' := hW
  obtain ⟨p, q, hA0, hV, rfl, hfz, hnd⟩ := hW
  have hA : DataW.TrodAll enc Try.prog W 0 (fun _ => true) true Try.f3.params.toList args.toList ds p := hA0
  rw [Try.params3] at hA hval
  obtain ⟨v0, vs0, d0, ds0, p0, q0, hargs, rfl, rfl, h0, r0⟩ := trodAll_cons hA
  obtain ⟨v1, vs1, d1, ds1, p1, q1, rfl, rfl, rfl, h1, r1⟩ := trodAll_cons r0
  obtain ⟨rfl, rfl, rfl⟩ := trodAll_nil r1
  obtain rfl : args = #[v0, v1] := by cases args; simp_all
  obtain ⟨rfl, rfl⟩ := trodVars_none hV
  obtain ⟨a0, len0, cap0, rfl⟩ := okWide_slice Try.underlying22 (hval 0 22 v0 rfl rfl)
  have k0 := h0
  have lt0 : ∀ x ∈ p0, x.block < W.heap.size := by obtain ⟨m, hm⟩ := k0; exact DataW.trod_lt m _ _ _ hm
  obtain ⟨z0, w0⟩ : ∃ zs, IntsAt W (.slice a0 len0 cap0) zs := by
    obtain ⟨fuel, hf⟩ := h0
    rcases open_ints Try.underlying22 Try.underlying3 (by kernel_rfl) hf with ⟨hcs, _⟩ | ⟨x, l, c, zs, hcs, _, hl, hm, hz, _, hcell, hwz⟩
    · simp [Value.cells] at hcs
      obtain ⟨rfl, rfl, rfl⟩ := hcs
      exact ints_in (zs := []) (.inl ⟨rfl, rfl, rfl⟩)
    · simp [Value.cells] at hcs
      obtain ⟨rfl, rfl, rfl⟩ := hcs
      exact ints_in (zs := zs) (.inr ⟨_, rfl, hl, hm, by simpa using hz, hcell, hwz⟩)
  obtain ⟨a1, rfl, rfl, rfl, w1⟩ := open_int Try.underlying3 (hval 1 3 v1 rfl rfl) h1
  clear hA0 hval0
  obtain ⟨g1, g2⟩ := bounds_i64 w1
  refine (Placed_any (.slice a0 len0 cap0) z0 a1 W w0 g1 g2).mono fun e W' ⟨he, bel⟩ => ?_
  subst he
  exact ⟨_, rfl, _, _, _, [], _, [], hW', trodAll_mk1 (shut_bool Try.underlying4 _), (trodAll_cons_mk (Below.trod row_laidOut (by kernel_rfl) (of_decide_eq_true (by kernel_rfl)) k0 bel lt0) (trodAll_cons_mk (shut_int Try.underlying3 w1) trodAll_mk0)), rfl, bel.frame _, fun h => by cases h⟩

theorem row_over : Rows.placedRow.holds Try.pinned (OpenSpec.ofChange Rows.placedSpec) :=
  OpenClaim.holds_of_wide 3 Try.f3 rfl rfl rfl rfl rfl rfl rfl ⟨rfl, rfl, rfl, rfl, rfl⟩ rfl rfl rfl rfl rfl (by kernel_rfl) Try.func3 (by kernel_rfl)
    (of_decide_eq_true (by kernel_rfl)) (by unfold Func.isWrapper; first | (rw [if_pos (by decide +kernel)]; kernel_rfl) | (rw [if_neg (by decide +kernel)]; exact ⟨rfl, rfl⟩))
    (fun os started H enc _ => row_lifted os started H enc)

theorem placed_holds : Rows.PlacedSaid :=
  row_over
#print axioms placed_holds

end Go.Proofs.Ytklobognaldjpaa
