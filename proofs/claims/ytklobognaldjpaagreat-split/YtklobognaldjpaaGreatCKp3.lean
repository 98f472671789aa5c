/- What package lecternkeep does: a lesson out of raw numbers. -/
import Derived.Test.YtklobognaldjpaaGreatCRm8
import Derived.Test.YtklobognaldjpaaGreatCVo1
import Derived.Deep.AppendLies
import Derived.Laws.OwnMore
import Derived.Deep.CutBlock
import Derived.Deep.DeepCutAuto
set_option maxRecDepth 1000000
set_option maxHeartbeats 1000000
namespace Go.Proofs.YtklobognaldjpaaGreat
open Go.RowKit
def stS (kd k : Nat) : List UInt8 := joinW (stW kd k)
theorem st_words_all : ((List.range 12).all fun kd => (List.range 9).all fun k => wordsL (stS kd k) == stW kd k) = true := by decide +kernel
theorem st_words {kd k : Nat} (hd : kd < 12) (hk : k < 9) : wordsL (stS kd k) = stW kd k :=
 eq_of_beq (List.all_eq_true.1 (List.all_eq_true.1 st_words_all kd (List.mem_range.2 hd)) k (List.mem_range.2 hk))
theorem hdr_words : wordsL (joinW hdrW) = hdrW := by kernel_rfl
theorem lesGo_step {zs : List Int} {j : Nat} {ks : List (Nat × Nat)} (h : j < zs.length) (h12 : j < 12) (hl : ¬ 500 < (joinW (hdrW ++ bodyW ks)).length) :
  lesGo ((zs.take 12).drop j) ks = lesGo ((zs.take 12).drop (j + 1)) (ks ++ [(kdOf (zs.getD j 0), dOf (zs.getD j 0))]) := by
 have hj : j < (zs.take 12).length := by rw [List.length_take]; omega
 rw [List.drop_eq_getElem_cons hj, lesGo, if_neg hl]
 have e : (zs.take 12)[j] = zs.getD j 0 := by
  rw [List.getElem_take]; simp [List.getD, h]
 rw [e]
theorem lesGo_full {zs : List Int} {j : Nat} {ks : List (Nat × Nat)} (hl : 500 < (joinW (hdrW ++ bodyW ks)).length) : lesGo ((zs.take 12).drop j) ks = ks := by
 cases (zs.take 12).drop j with
 | nil => rfl
 | cons a r => rw [lesGo, if_pos hl]
theorem lesGo_end {zs : List Int} {j : Nat} {ks : List (Nat × Nat)} (h : ¬ (j < zs.length /\ j < 12)) : lesGo ((zs.take 12).drop j) ks = ks := by
 rw [List.drop_of_length_le (by rw [List.length_take]; omega)]; rfl
theorem words_at {w : World} {base : Nat} {v : Value} {ws : List (List UInt8)} (h : w.ownsRow base 9 1 v ws.length (ws.map strV)) (hp : ws ≠ []) :
  ∃ b cap, v = .slice (some ⟨b, 0, none⟩) ws.length cap /\ b < w.heap.size /\ base <= b /\ WordsAt w b ws := by
 obtain ⟨tb, cap, rfl, hb, hlt⟩ := h.form (List.length_pos_iff.2 hp)
 refine ⟨tb, cap, rfl, hlt, hb, fun j t hj => ?_⟩
 have hjl : j < ws.length := (List.getElem?_eq_some_iff.1 hj).1
 have := h.cellAt j (by simpa using hjl)
 rw [this, List.getElem?_map, hj]
 rfl
theorem tdiv16 {r : Int} (h1 : -9223372036854775808 <= r) (h2 : r <= 9223372036854775807) : -9223372036854775808 <= r.tdiv 16 /\ r.tdiv 16 <= 9223372036854775807 := by
 by_cases h : 0 <= r
 ·rw [Int.tdiv_eq_ediv_of_nonneg h]; omega
 ·have e : r = -(-r) := by omega
  rw [e, Int.neg_tdiv, Int.tdiv_eq_ediv_of_nonneg (by omega)]; omega
theorem cell_two_new (w : World) (a b : Value) (t : TypeId) : ∀ j u, [a, b][j]? = some u -> (w.alloc (.cells #[a, b] t)).cell? ((⟨w.heap.size, 0, none⟩ : Addr).add j) = some u := by
 intro j u hj
 match j, hj with
 | 0, hj => simp at hj; subst hj; simp [Addr.add]
 | 1, hj => simp at hj; subst hj; simp [Addr.add]
 | j + 2, hj => simp at hj
theorem next_none {ks : List (Nat × Nat)} {L : List (List UInt8)} {kd d : Nat} (h : hdrW ++ bodyW ks = L) (hk : ks = []) : hdrW ++ bodyW (ks ++ [(kd, d)]) = L ++ stW kd d := by
 rw [body_snoc, if_pos hk, <- h, hk]; simp [bodyW]
theorem next_some {ks : List (Nat × Nat)} {L : List (List UInt8)} {kd d : Nat} (h : hdrW ++ bodyW ks = L) (hk : ks ≠ []) : hdrW ++ bodyW (ks ++ [(kd, d)]) = (L ++ [semiW]) ++ stW kd d := by
 rw [body_snoc, if_neg hk, <- h]; simp
theorem ks_next {ks : List (Nat × Nat)} {kd d : Nat} (h : KsOk ks) (h1 : kd < 12) (h2 : d < 9) : KsOk (ks ++ [(kd, d)]) := fun x hx => by
 rcases List.mem_append.1 hx with hx | hx
 ·exact h x hx
 ·rw [List.mem_singleton] at hx; subst hx; exact ⟨h1, h2⟩
theorem words_cells {w : World} {b : Nat} {ws : List (List UInt8)} (h : WordsAt w b ws) : ∀ j u, (ws.map strV)[j]? = some u -> w.cell? ((⟨b, 0, none⟩ : Addr).add j) = some u := by
 intro j u hj
 rw [List.getElem?_map] at hj
 cases ht : ws[j]? with
 | none => rw [ht] at hj; cases hj
 | some t =>
  rw [ht] at hj
  cases hj
  have := h j t ht
  cases j with
  | zero => simpa [Addr.add] using this
  | succ j => simpa [Addr.add] using this
theorem strs_one (ws : List (List UInt8)) : ∀ u ∈ ws.map strV, u.oneCell' = true := by
 intro u hu
 obtain ⟨t, _, rfl⟩ := List.mem_map.1 hu
 rfl
theorem join_count : ∀ (l : List (List UInt8)), l.length <= (joinW l).length + 1
 | [] => by simp
 | t :: r => by
  have : ∀ r : List (List UInt8), r.length <= (r.flatMap (fun u => [32] ++ u)).length := by
   intro r
   induction r with
   | nil => simp
   | cons a r ih => rw [List.flatMap_cons, List.length_append, List.length_append, List.length_cons]; simp only [List.length_singleton]; omega
  have h := this r
  unfold joinW joinG
  rw [List.length_append, List.length_cons]
  omega
theorem lesson_any (v : Value) (zs : List Int) (w : World) (hin : IntsAt w v zs) :
  Calls Tryz.prog 22 #[v] w fun e w' => Below w.heap.size w w' /\ ∃ v, e = .returned v /\ w'.ownsRow w.heap.size 9 1 v (lesW (lesKs zs)).length ((lesW (lesKs zs)).map strV) := by
 obtain ⟨i0, hi, hz0, hz1, hz2⟩ := info_parts Tryz.infoStr
 obtain ⟨a, cap, rfl, hmx, hrng, hcells⟩ := hin
 unfold maxLen at hmx
 have hW0 := fun W => words_any ⟨(joinW hdrW).toArray⟩ W (by rw [str_size]; have := hdr_jlen; omega)
 have ehdr : wordsL (⟨(joinW hdrW).toArray⟩ : ByteArray).data.toList = hdrW := hdr_words
 rw [ehdr] at hW0
 clear ehdr
 go_enter Tryz.func22, Tryz.ntmps22
 go_wp2_with (go_at_call 50; refine (hW0 _).mono ?_; rintro e w1 ⟨hb1, vl, rfl, hown1⟩)
 go_loopw [3, 4] (fun v i wr => ∃ (ks : List (Nat × Nat)) (j : Nat), j <= 12 /\ i = .int .i64 j /\ wr.ownsRow w.heap.size 9 1 v (hdrW ++ bodyW ks).length ((hdrW ++ bodyW ks).map strV) /\ Below w.heap.size w wr /\ KsOk ks /\ (joinW (hdrW ++ bodyW ks)).length <= 565 /\
   (j = 0 ↔ ks = []) /\ Hid (lesGo ((zs.take 12).drop j) ks = lesKs zs)) (fun _ i _ => 12 - (intOf i).toNat)
 case atStart => exact ⟨[], 0, by omega, rfl, owns_map hown1 (by simp [bodyW]) (by simp [bodyW]), hb1, (fun x hx => by cases hx), by have := hdr_jlen; simp [bodyW]; omega, by simp, rfl⟩
 case round =>
  obtain ⟨ks, j, hj12, rfl, hown, hbw, hks, hlen, hj0, HG⟩ := hrel
  have hbs := hbw.size
  have hne : hdrW ++ bodyW ks ≠ [] := by simp [hdrW]
  by_cases hin : j < zs.length /\ j < 12
  ·obtain ⟨hjz, hj12'⟩ := hin
   rcases hcells with rfl | ⟨b, off, rfl, hbl, hcells⟩
   ·simp at hjz
   have hcj := hcells j hjz
   have hrj := hrng (zs.getD j 0) (by simp [List.getD, hjz])
   have hcell : wr.cell? ⟨b, off + j, none⟩ = some (.int .i64 (zs.getD j 0)) := by rw [hbw.cell (p := ⟨b, off + j, none⟩) hbl]; exact hcj
   clear hcj
   obtain ⟨lb, lc, rfl, hlb, hlb2, hWA⟩ := words_at hown hne
   have hlL : (hdrW ++ bodyW ks).length <= 1000000 := by
    have := join_count (hdrW ++ bodyW ks); omega
   have hJ := joined_any lb lc (hdrW ++ bodyW ks) [32] wr hlL (by unfold joinW at hlen; omega) hWA
   have HL : Hid (∃ L, L = hdrW ++ bodyW ks) := ⟨_, rfl⟩
   by_cases hfull : 500 < (joinW (hdrW ++ bodyW ks)).length
   ·have HE : Hid (lesKs zs = ks) := by show _ = _; rw [<- HG.out]; exact lesGo_full hfull
    clear HG
    have hf500 : 500 < (joinG [32] (hdrW ++ bodyW ks)).length := hfull
    clear hfull hlen HL
    have HW : Hid (WordsAt wr lb (hdrW ++ bodyW ks)) := hWA
    clear hWA hne
    generalize hL : hdrW ++ bodyW ks = L at *
    generalize hT : joinG [32] L = T at *
    unfold strV at hJ
    clear hT
    have HLL : Hid (hdrW ++ bodyW ks = L) := hL
    have HLE : Hid (lesW (lesKs zs) = L ++ [endW, dotW]) := by show _ = _; rw [HE.out, <- hL]; unfold lesW; rw [List.append_assoc]
    clear hL
    have hfi : (500 : Int) < T.length := by omega
    have hown9 : wr.ownsRow w.heap.size 9 1 (.slice (some ⟨lb, 0, none⟩) L.length lc) L.length (L.map strV) := hown
    clear hown
    go_wp2_with (first
     | (go_at_call 25; refine hJ.mono ?_; rintro e w2 ⟨rfl, rfl⟩)
     | (at_builtin; refine wpList_append_own _ rfl _ _ 45 rfl w.heap.size 9 i0 _ 1 16 Tryz.underlying45 hi hz0 hz1 hz2 rfl (by decide) _ _ _ rfl (hown9.alloc _) ⟨_, 0, none⟩ 2 2 [strV endW, strV dotW] rfl rfl (cell_two_new _ _ _ _) ?m1 ?m63 ?mby ?mbase ?mh
        case m1 => intro u hu; simp at hu; rcases hu with rfl | rfl <;> rfl
        case m63 => unfold maxLen; omega
        case mby => omega
        case mbase => simp; omega
        intro v' w7 hown' hgrow7 hnil7
        have hb7 : Below w.heap.size w w7 := Below.grown (hbw.alloc (by omega) _) hgrow7 (by simp; omega) (fun k hk => (hown9.lt _ hk).1)
        have Y : Aside (w7.ownsRow w.heap.size 9 1 v' (L.length + 2) (L.map strV ++ [strV endW, strV dotW]) /\ Below w.heap.size w w7) := ⟨hown', hb7⟩
        clear hown' hgrow7 hnil7 hb7))
    go_ret
    exact ⟨Y.out.2, _, rfl, by rw [HLE.out]; exact owns_map Y.out.1 (by simp) (by simp)⟩
   ·have hst := lesGo_step (ks := ks) hjz hj12' hfull
    have hk12 := (pickI_lt (zs.getD j 0) (n := 12) (by omega))
    have hk9 := (pickI_lt ((zs.getD j 0).tdiv 16) (n := 9) (by omega))
    have HF : Hid (¬ 500 < (joinW (hdrW ++ bodyW ks)).length) := hfull
    have hf500 : (joinG [32] (hdrW ++ bodyW ks)).length <= 500 := by unfold joinW at hfull; omega
    clear hfull
    have HS : Hid (lesGo ((zs.take 12).drop (j + 1)) (ks ++ [(kdOf (zs.getD j 0), dOf (zs.getD j 0))]) = lesKs zs) := by show _ = _; rw [<- hst]; exact HG.out
    clear hst HG
    have HW : Hid (WordsAt wr lb (hdrW ++ bodyW ks)) := hWA
    clear hWA
    have HO : Hid (wr.ownsRow w.heap.size 9 1 (.slice (some ⟨lb, 0, none⟩) (hdrW ++ bodyW ks).length lc) (hdrW ++ bodyW ks).length ((hdrW ++ bodyW ks).map strV)) := hown
    clear hown hne hlen
    generalize hr : zs.getD j 0 = r at *
    generalize hL : hdrW ++ bodyW ks = L at *
    generalize hT : joinG [32] L = T at *
    unfold strV at hJ
    clear hT
    have HLL : Hid (hdrW ++ bodyW ks = L) := hL
    clear hL hr
    obtain ⟨hrl, hrh⟩ := hrj
    have hq1 : -9223372036854775808 <= r.tdiv 16 /\ r.tdiv 16 <= 9223372036854775807 := tdiv16 hrl hrh
    obtain ⟨kd, hkd, hkd12⟩ : ∃ kd : Nat, pickI r 12 = kd /\ kd < 12 := ⟨(pickI r 12).toNat, by have := hk12.2.1; simp at this; omega, hk12.1⟩
    obtain ⟨d, hd, hd9⟩ : ∃ d : Nat, pickI (r.tdiv 16) 9 = d /\ d < 9 := ⟨(pickI (r.tdiv 16) 9).toNat, by have := hk9.2.1; simp at this; omega, hk9.1⟩
    have hPk := fun W => pick_any r 12 W hrl hrh (by omega) (by omega)
    have hPd := fun W => pick_any (r.tdiv 16) 9 W hq1.1 hq1.2 (by omega) (by omega)
    have hDg := fun W => digits_any d W (by omega)
    rw [hkd] at hPk
    rw [hd] at hPd
    have HKD : Hid (kdOf r = kd /\ dOf r = d) := ⟨by unfold kdOf; rw [hkd]; rfl, by unfold dOf; rw [hd]; rfl⟩
    have hdl : digL d = dg d := by unfold digL dg; rw [digF, if_pos (by omega)]
    rw [hdl] at hDg
    unfold dg at hDg
    clear hdl hd hkd hk9 hk12 hq1 HL
    go_upto_block 2 with (first
     | (go_at_call 25; refine hJ.mono ?_; rintro e w2 ⟨rfl, rfl⟩)
     | (go_at_call 23; have _q := hb4; refine (hPk _).mono ?_; rintro e w3 ⟨rfl, rfl⟩)
     | (go_at_call 23; refine (hPd _).mono ?_; rintro e w3 ⟨rfl, rfl⟩)
     | (go_at_call 27; refine (hDg _).mono ?_; rintro e w4 ⟨rfl, hb4⟩; have hcell4 : w4.cell? ⟨b, off + j, none⟩ = some (.int .i64 r) := by (rw [hb4.cell (p := ⟨b, off + j, none⟩) (by show b < _; omega)]; exact hcell)))
    go_cut [6] (fun s6 wx => s6 = strV (stS kd d) /\ wx = w3)
    case first =>
     match kd, hkd12 with
     | 0, _ | 1, _ | 2, _ | 3, _ | 4, _ | 5, _ | 6, _ | 7, _ | 8, _ | 9, _ | 10, _ | 11, _ =>
      all_goals
       go_wp2
       go_meet
       case rel => exact ⟨by go_light; simp [strV, stS, joinW, joinG, stW, dg, ByteArray.mk_append_mk], rfl⟩
    case rest =>
     obtain ⟨rfl, rfl⟩ := hcut
     have hsl : (stS kd d).length <= 60 := st_len hkd12 hd9
     have hW5 := fun W => words_any ⟨(stS kd d).toArray⟩ W (by rw [str_size]; omega)
     have est : wordsL (⟨(stS kd d).toArray⟩ : ByteArray).data.toList = stW kd d := st_words hkd12 hd9
     rw [est] at hW5
     clear est
     have hstl : (stW kd d).length <= 61 := by have := join_count (stW kd d); unfold stS at hsl; omega
     have hstn : stW kd d ≠ [] := by
      match kd, hkd12 with
      | 0, _ | 1, _ | 2, _ | 3, _ | 4, _ | 5, _ | 6, _ | 7, _ | 8, _ | 9, _ | 10, _ | 11, _ => all_goals simp [stW]
     have hown4 := owns_below HO.out hb4
     have HB4 : Hid (Below w.heap.size w wc) := hbw.trans (hb4.mono hbs)
     have hs4 := hb4.size
     have HN : Hid (ks ++ [(kdOf r, dOf r)] = ks ++ [(kd, d)]) := by show _ = _; rw [HKD.out.1, HKD.out.2]
     have HS2 : Hid (lesGo ((zs.take 12).drop (j + 1)) (ks ++ [(kd, d)]) = lesKs zs) := by show _ = _; rw [<- HN.out]; exact HS.out
     have HKs : Hid (KsOk (ks ++ [(kd, d)])) := ks_next hks hkd12 hd9
     have HLn : Hid ((joinW (hdrW ++ bodyW (ks ++ [(kd, d)]))).length <= 565) := les_step_len (x := (kd, d)) hkd12 hd9 (by have := HF.out; rw [HLL.out]; omega)
     unfold strV
     generalize hst : stW kd d = st at *
     have HST : Hid (stW kd d = st) := hst
     clear hst
     generalize stS kd d = ss at *
     clear hPk hPd hDg hJ hcell hcell4 _q HKD HN HS hb4 HW HO
     by_cases hj : 0 < j
     ·have hji : (0 : Int) < j := by omega
      have HLx : Hid (hdrW ++ bodyW (ks ++ [(kd, d)]) = (L ++ [semiW]) ++ st) := by show _ = _; rw [<- HST.out]; exact next_some HLL.out (fun h => by have := hj0.2 h; omega)
      go_wp2_with (first
       | (at_builtin; have _q := hb6; refine wpList_append_own _ rfl _ _ 45 rfl w.heap.size 9 i0 _ 1 16 Tryz.underlying45 hi hz0 hz1 hz2 rfl (by decide) _ _ _ rfl (owns_below X.out.1 hb6) ⟨mb, 0, none⟩ st.length mc (st.map strV) rfl (by simp) (words_cells hWm) (strs_one st) ?h63 ?hby ?hbase ?hh
          case h63 => unfold maxLen; omega
          case hby => omega
          case hbase => have := hb6.size; omega
          intro v' w7 hown' hgrow7 hnil7
          have hb7 : Below w.heap.size w w7 := Below.grown (X.out.2.trans (hb6.mono hs5)) hgrow7 (by have := hb6.size; omega) (fun k hk => ((owns_below X.out.1 hb6).lt _ hk).1)
          have Y : Aside (w7.ownsRow w.heap.size 9 1 v' (L.length + 1 + st.length) (L.map strV ++ [strV semiW] ++ st.map strV) /\ Below w.heap.size w w7) := ⟨hown', hb7⟩
          clear hown' hgrow7 hnil7 hb7)
       | (at_builtin; refine wpList_append_own _ rfl _ _ 45 rfl w.heap.size 9 i0 _ 1 16 Tryz.underlying45 hi hz0 hz1 hz2 rfl (by decide) _ _ _ rfl (hown4.alloc _) ⟨_, 0, none⟩ 1 1 [strV semiW] rfl rfl (cell_one_new _ _ _) ?g1 ?g63 ?gby ?gbase ?gh
          case g1 => intro u hu; simp at hu; subst hu; rfl
          case g63 => unfold maxLen; omega
          case gby => omega
          case gbase => simp; omega
          intro v' w5 hown' hgrow5 hnil5
          have hb5 : Below w.heap.size w w5 := Below.grown (HB4.out.alloc (by omega) _) hgrow5 (by simp; omega) (fun k hk => (hown4.lt _ hk).1)
          have hs5 := hb5.size
          have X : Aside (w5.ownsRow w.heap.size 9 1 v' (L.length + 1) (L.map strV ++ [strV semiW]) /\ Below w.heap.size w w5) := ⟨hown', hb5⟩
          clear hown' hgrow5 hnil5 hb5)
       | (go_at_call 50; refine (hW5 _).mono ?_; rintro e w6 ⟨hb6, vm, rfl, hownm⟩; obtain ⟨mb, mc, rfl, hmb, hmb2, hWm⟩ := words_at hownm hstn))
      go_roundw
      case rel =>
       exact ⟨ks ++ [(kd, d)], j + 1, by omega, by go_num, by rw [HLx.out]; exact owns_map Y.out.1 (by simp <;> omega) (by simp), Y.out.2, HKs.out, HLn.out, by simp, HS2⟩
      case measure => simp [intOf]; omega
     ·have hji : ¬ (0 : Int) < j := by omega
      have HLx : Hid (hdrW ++ bodyW (ks ++ [(kd, d)]) = L ++ st) := by show _ = _; rw [<- HST.out]; exact next_none HLL.out (hj0.1 (by omega))
      go_wp2_with (first
       | (at_builtin; refine wpList_append_own _ rfl _ _ 45 rfl w.heap.size 9 i0 _ 1 16 Tryz.underlying45 hi hz0 hz1 hz2 rfl (by decide) _ _ _ rfl (owns_below hown4 hb6) ⟨mb, 0, none⟩ st.length mc (st.map strV) rfl (by simp) (words_cells hWm) (strs_one st) ?k63 ?kby ?kbase ?kh
          case k63 => unfold maxLen; omega
          case kby => omega
          case kbase => have := hb6.size; omega
          intro v' w7 hown' hgrow7 hnil7
          have hb7 : Below w.heap.size w w7 := Below.grown (HB4.out.trans (hb6.mono (by omega))) hgrow7 (by have := hb6.size; omega) (fun k hk => ((owns_below hown4 hb6).lt _ hk).1)
          have Y : Aside (w7.ownsRow w.heap.size 9 1 v' (L.length + st.length) (L.map strV ++ st.map strV) /\ Below w.heap.size w w7) := ⟨hown', hb7⟩
          clear hown' hgrow7 hnil7 hb7)
       | (go_at_call 50; refine (hW5 _).mono ?_; rintro e w6 ⟨hb6, vm, rfl, hownm⟩; obtain ⟨mb, mc, rfl, hmb, hmb2, hWm⟩ := words_at hownm hstn))
      go_roundw
      case rel =>
       exact ⟨ks ++ [(kd, d)], j + 1, by omega, by go_num, by rw [HLx.out]; exact owns_map Y.out.1 (by simp <;> omega) (by simp), Y.out.2, HKs.out, HLn.out, by simp, HS2⟩
      case measure => simp [intOf]; omega
  ·have HE : Hid (lesKs zs = ks) := by show _ = _; rw [<- HG.out]; exact lesGo_end hin
   clear HG
   have hlL : (hdrW ++ bodyW ks).length <= 1000000 := by
    have := join_count (hdrW ++ bodyW ks); omega
   generalize hL : hdrW ++ bodyW ks = L at *
   have HLE : Hid (lesW (lesKs zs) = L ++ [endW, dotW]) := by show _ = _; rw [HE.out, <- hL]; unfold lesW; rw [List.append_assoc]
   clear hL hne hcells
   by_cases h1 : j < zs.length
   ·have h1' : (j : Int) < zs.length := by omega
    have h2' : ¬ (j : Int) < 12 := by omega
    clear hin
    go_wp2_with (first
     | (at_builtin; refine wpList_append_own _ rfl _ _ 45 rfl w.heap.size 9 i0 _ 1 16 Tryz.underlying45 hi hz0 hz1 hz2 rfl (by decide) _ _ _ rfl (hown.alloc _) ⟨_, 0, none⟩ 2 2 [strV endW, strV dotW] rfl rfl (cell_two_new _ _ _ _) ?n1 ?n63 ?nby ?nbase ?nh
        case n1 => intro u hu; simp at hu; rcases hu with rfl | rfl <;> rfl
        case n63 => unfold maxLen; omega
        case nby => omega
        case nbase => simp; omega
        intro v' w7 hown' hgrow7 hnil7
        have hb7 : Below w.heap.size w w7 := Below.grown (hbw.alloc (by omega) _) hgrow7 (by simp; omega) (fun k hk => (hown.lt _ hk).1)
        have Y : Aside (w7.ownsRow w.heap.size 9 1 v' (L.length + 2) (L.map strV ++ [strV endW, strV dotW]) /\ Below w.heap.size w w7) := ⟨hown', hb7⟩
        clear hown' hgrow7 hnil7 hb7))
    go_ret
    exact ⟨Y.out.2, _, rfl, by rw [HLE.out]; exact owns_map Y.out.1 (by simp) (by simp)⟩
   ·have h1' : ¬ (j : Int) < zs.length := by omega
    clear hin
    go_wp2_with (first
     | (at_builtin; refine wpList_append_own _ rfl _ _ 45 rfl w.heap.size 9 i0 _ 1 16 Tryz.underlying45 hi hz0 hz1 hz2 rfl (by decide) _ _ _ rfl (hown.alloc _) ⟨_, 0, none⟩ 2 2 [strV endW, strV dotW] rfl rfl (cell_two_new _ _ _ _) ?o1 ?o63 ?oby ?obase ?oh
        case o1 => intro u hu; simp at hu; rcases hu with rfl | rfl <;> rfl
        case o63 => unfold maxLen; omega
        case oby => omega
        case obase => simp; omega
        intro v' w7 hown' hgrow7 hnil7
        have hb7 : Below w.heap.size w w7 := Below.grown (hbw.alloc (by omega) _) hgrow7 (by simp; omega) (fun k hk => (hown.lt _ hk).1)
        have Y : Aside (w7.ownsRow w.heap.size 9 1 v' (L.length + 2) (L.map strV ++ [strV endW, strV dotW]) /\ Below w.heap.size w w7) := ⟨hown', hb7⟩
        clear hown' hgrow7 hnil7 hb7))
    go_ret
    exact ⟨Y.out.2, _, rfl, by rw [HLE.out]; exact owns_map Y.out.1 (by simp) (by simp)⟩
end Go.Proofs.YtklobognaldjpaaGreat
