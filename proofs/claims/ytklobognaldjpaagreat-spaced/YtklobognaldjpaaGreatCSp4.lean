/- The law Spaced: its contract. For every three lists of numbers and every number, lecternkeep.Spaced returns true: what stands between tokens changes nothing. No condition. -/
import Derived.Test.YtklobognaldjpaaGreatCSp2
import Derived.Test.YtklobognaldjpaaGreatRows
import Derived.WalkKit
import Derived.ProofKit
import Derived.OpenShut
import Derived.ShutString
import Derived.ChangeOld
import Derived.ChangeSlices
import Derived.SizedLaws
import Derived.Below
namespace Go.Proofs.YtklobognaldjpaaGreat
open Go.RowKit

set_option maxRecDepth 1000000 in
set_option maxHeartbeats 4000000 in
theorem Spaced_any (v vg vi : Value) (zs gl inp : List Int) (fuel : Int) (w : World) (hin : IntsAt w v zs) (hgl : IntsAt w vg gl) (hip : IntsAt w vi inp) (hgll : gl.length ≤ 17592186044416) (hil : inp.length ≤ 17592186044416) (h1 : -9223372036854775808 ≤ fuel) (h2 : fuel ≤ 9223372036854775807) :
    Calls Tryz.prog 6 #[v, vg, vi, .int .i64 fuel] w fun e w' => e = .returned (.bool true) ∧ Below w.heap.size w w' := by
  obtain ⟨hks, hlen⟩ := lesKs_ok zs
  have hcount := join_count (lesW (lesKs zs))
  have hpos : 0 < (lesW (lesKs zs)).length := by unfold lesW; simp [hdrW]
  have hne : lesW (lesKs zs) ≠ [] := List.length_pos_iff.1 hpos
  have hLs := fun W (h : Below w.heap.size w W) => lesson_any v zs W (hin.under h)
  have hR := fun W => running_any W
  obtain ⟨fu, hfu, hful⟩ : ∃ f : Nat, pickI fuel 3001 = f ∧ f < 3001 := ⟨(pickI fuel 3001).toNat, by have := (pickI_lt fuel (n := 3001) (by omega)).2.1; simp at this; omega, (pickI_lt fuel (n := 3001) (by omega)).1⟩
  have hP := fun W => pick_any fuel 3001 W h1 h2 (by omega) (by omega)
  rw [hfu] at hP
  obtain ⟨va, vc, rfl, _⟩ := hin
  have HG : Hid (∀ W, Below w.heap.size w W → IntsAt W vg gl) := fun W h => hgl.under h
  have HP : Hid (∀ W, Below w.heap.size w W → IntsAt W vi inp) := fun W h => hip.under h
  obtain ⟨ga, gc, rfl, _⟩ := hgl
  obtain ⟨ia, ic, rfl, _⟩ := hip
  have HL : Hid (∀ k, (spT (gsOf gl) ((lesW (lesKs zs)).take k)).length ≤ 6000) := fun k => by
    have a1 := spT_len (gs_len gl) ((lesW (lesKs zs)).take k)
    have a2 := join_take_le (lesW (lesKs zs)) k
    have a3 : ((lesW (lesKs zs)).take k).length ≤ (lesW (lesKs zs)).length := by rw [List.length_take]; omega
    omega
  have hw601 : (lesW (lesKs zs)).length ≤ 601 := by omega
  have HK : Hid (KsOk (lesKs zs) ∧ (joinW (lesW (lesKs zs))).length ≤ 600) := ⟨hks, hlen⟩
  clear hks hlen hcount
  generalize hws : lesW (lesKs zs) = ws at *
  go_enter Tryz.func6, Tryz.ntmps6
  go_upto_region 3 with (first
    | (go_at_call 17; refine (hR _).mono ?_; rintro e wa ⟨rfl, hba⟩)
    | (go_at_call 22; refine (hLs _ hba).mono ?_; rintro e wl ⟨hbl, vl, rfl, hown⟩; obtain ⟨lb, lc, rfl, hlb, hlb2, hWA⟩ := words_at hown hne))
  have HB0 : Hid (Below w.heap.size w wl) := hba.trans (hbl.mono hba.size)
  have c0 : wl.cell? ⟨lb, 0, none⟩ = some (.string ⟨ws[0].toArray⟩) := hWA 0 ws[0] (List.getElem?_eq_getElem hpos)
  have HW : Hid (∀ W, Below wl.heap.size wl W → WordsAt W lb ws) := fun W h => wordsAt_under hWA hlb h
  clear hba hbl hown hWA hLs hR
  go_wp2
  go_loopw [11, 12] (fun s i wr => ∃ m : Nat, i = .int .i64 ((m : Int) + 1) ∧ m + 1 ≤ ws.length ∧ s = .string ⟨(spT (gsOf gl) (ws.take (m + 1))).toArray⟩ ∧ Below wl.heap.size wl wr) (fun _ i _ => ws.length - (intOf i).toNat)
  case atStart =>
    refine ⟨0, rfl, hpos, ?_, Below.refl _ _⟩
    obtain ⟨t, r, rfl⟩ := List.exists_cons_of_ne_nil hne
    simp [spT, spR]
  case round =>
    obtain ⟨m, rfl, hm, rfl, hB⟩ := hrel
    by_cases hlt : m + 1 < ws.length
    · have hcell : wr.cell? ⟨lb, m + 1, none⟩ = some (.string ⟨ws[m + 1].toArray⟩) := HW.out wr hB (m + 1) ws[m + 1] (List.getElem?_eq_getElem hlt)
      have hst := spT_take (gs := gsOf gl) hlt
      have hl2 := HL.out (m + 2)
      rw [hst] at hl2
      have HST : Hid (spT (gsOf gl) (ws.take (m + 2)) = spT (gsOf gl) (ws.take (m + 1)) ++ (gsOf gl m ++ ws[m + 1])) := hst
      clear hst
      have hbl2 : lb < wr.heap.size := Nat.lt_of_lt_of_le hlb hB.size
      have hmi : (m : Int) + 1 < (ws.length : Int) := by omega
      simp only [List.length_append] at hl2
      generalize spT (gsOf gl) (ws.take (m + 1)) = a at *
      generalize ws[m + 1] = t at *
      have ha : a.length ≤ 6000 := by omega
      have ht : t.length ≤ 6000 := by omega
      by_cases hg : m < gl.length
      · have hgi : (m : Int) < (gl.length : Int) := by omega
        have hgi2 : (m : Int) + 1 < (gl.length : Int) + 1 := by omega
        obtain ⟨g2, gc2, ge, gm, gr, gcs⟩ := HG.out wr (HB0.out.trans (hB.mono HB0.out.size))
        rcases gcs with h0 | ⟨gb, goff, hge, hgb, gcs⟩
        · rw [h0] at hg; simp at hg
        subst hge
        injection ge with ge1 _ ge2
        subst ge1
        subst ge2
        have hgc := gcs m hg
        have hrz := gr (gl.getD m 0) (by simp [List.getD, hg])
        obtain ⟨d, hd, hdl⟩ : ∃ d : Nat, pickI (gl.getD m 0) 6 = d ∧ d < 6 := ⟨(pickI (gl.getD m 0) 6).toNat, by have q9 := (pickI_lt (gl.getD m 0) (n := 6) (by omega)).2.1; exact (Int.toNat_of_nonneg q9).symm, (pickI_lt (gl.getD m 0) (n := 6) (by omega)).1⟩
        have hPk := fun W => pick_any (gl.getD m 0) 6 W hrz.1 hrz.2 (by omega) (by omega)
        rw [hd] at hPk
        have HGS : Hid (gsOf gl m = gapOf d) := by show _ = _; unfold gsOf; rw [if_pos hg, hd]; rfl
        clear hd hrz gcs gr HG
        unfold maxLen at gm
        generalize gl.getD m 0 = z at *
        have hd6 : d = 0 ∨ d = 1 ∨ d = 2 ∨ d = 3 ∨ d = 4 ∨ d = 5 := by omega
        clear hl2 hdl
        rcases hd6 with rfl | rfl | rfl | rfl | rfl | rfl
        all_goals
          go_wp2_with (go_at_call 23; refine (hPk _).mono ?_; rintro e wp ⟨rfl, h9⟩; cases h9)
          go_roundw
          case rel => exact ⟨m + 1, by go_num, by omega, by rw [HST.out, HGS.out, ← str_add, ← str_add]; simp [gapOf, ByteArray.append_assoc], hB.alloc hB.size _⟩
          case measure => simp [intOf]; omega
      · have hgi : ¬ (m : Int) < (gl.length : Int) := by omega
        have hgi2 : ¬ (m : Int) + 1 < (gl.length : Int) + 1 := by omega
        have HGS : Hid (gsOf gl m = [32]) := by show _ = _; unfold gsOf; rw [if_neg hg]
        clear hl2
        go_wp2
        go_roundw
        case rel => exact ⟨m + 1, by go_num, by omega, by rw [HST.out, HGS.out, ← str_add, ← str_add]; simp [ByteArray.append_assoc], hB⟩
        case measure => simp [intOf]; omega
    · have hmi : ¬ (m : Int) + 1 < (ws.length : Int) := by omega
      have htk : ws.take (m + 1) = ws := List.take_of_length_le (by omega)
      have hSl := HL.out (m + 1)
      rw [htk] at hSl ⊢
      have HBx : Hid (Below w.heap.size w wr) := HB0.out.trans (hB.mono HB0.out.size)
      have HWx : Hid (∀ W, Below wr.heap.size wr W → WordsAt W lb ws) := fun W h => HW.out W (hB.trans (h.mono hB.size))
      have HPx : Hid (∀ W, Below wr.heap.size wr W → IntsAt W (.slice ia inp.length ic) inp) := fun W h => HP.out W (HBx.out.trans (h.mono HBx.out.size))
      clear HG HW HP hB c0 htk HB0
      generalize wr = wx at *
      by_cases h600 : (spT (gsOf gl) ws).length > 600
      · have h600i : ((spT (gsOf gl) ws).length : Int) > 600 := by omega
        generalize spT (gsOf gl) ws = S at *
        go_wp2
        go_ret
        exact ⟨rfl, HBx.out⟩
      · have h600i : ¬ ((spT (gsOf gl) ws).length : Int) > 600 := by omega
        have e1 : checkP (spT (gsOf gl) ws) = (0, 0) := by have := (les_spaced HK.out.1 (gsOf gl) (gs_ok gl) (by rw [hws]; omega)).1; rwa [hws] at this
        have e2 : checkP (joinG [32] ws) = (0, 0) := by have := check_whole HK.out.1 (by rw [hws]; exact HK.out.2); rw [hws] at this; exact this
        have e3 : ∀ xs : List Int, outcome (treeOf (spT (gsOf gl) ws)) xs fu = outcome (treeOf (joinG [32] ws)) xs fu := fun xs => by
          have := les_alike HK.out.1 (gsOf gl) (fun _ => [32]) (gs_ok gl) (fun _ => ok_blank) (by rw [hws]; omega) (by rw [spT_blank, hws]; exact HK.out.2) xs fu
          rw [spT_blank, hws] at this
          exact this
        have HE : Hid (checkP (spT (gsOf gl) ws) = (0, 0) ∧ checkP (joinG [32] ws) = (0, 0) ∧ (∀ xs : List Int, outcome (treeOf (spT (gsOf gl) ws)) xs fu = outcome (treeOf (joinG [32] ws)) xs fu) ∧ (joinG [32] ws).length ≤ 600) := ⟨e1, e2, e3, HK.out.2⟩
        clear e1 e2 e3 HK HL hws
        generalize spT (gsOf gl) ws = S at *
        obtain ⟨i0, hi, hz0, hz1, hz2⟩ := info_parts Tryz.infoIntC
        go_wp2_with (go_at_call 23; refine (hP _).mono ?_; rintro e wp ⟨rfl, h9⟩; cases h9)
        go_loopw [15, 16] (fun s i wr => ∃ (j : Nat) (xs : List Int), i = .int .i64 j ∧ j ≤ inp.length ∧ xs.length = j ∧ okIn xs = true ∧ wr.ownsRow wx.heap.size 3 1 s j (xs.map (.int .i64)) ∧ Below wx.heap.size wx wr) (fun _ i _ => inp.length - (intOf i).toNat)
        case atStart => exact ⟨0, [], rfl, Nat.zero_le _, rfl, rfl, World.ownsRow_nil _ _ _ _, Below.refl _ _⟩
        case round =>
          obtain ⟨j, xs, rfl, hj, hxl, hxo, hown, hB⟩ := hrel
          by_cases hlt : j < inp.length
          · have hji : (j : Int) < (inp.length : Int) := by omega
            obtain ⟨g2, gc2, ge, gm, gr, gcs⟩ := HPx.out wr hB
            rcases gcs with h0 | ⟨gb, goff, hge, hgb, gcs⟩
            · rw [h0] at hlt; simp at hlt
            subst hge
            injection ge with ge1 _ ge2
            subst ge1
            subst ge2
            have hgc := gcs j hlt
            clear gcs gr
            unfold maxLen at gm
            generalize inp.getD j 0 = y at *
            obtain ⟨va2, vc2, hva⟩ := owned_slice hown
            subst hva
            go_wp2_with (first
              | (go_at_call 24; refine (wrap_any _ _).mono ?_; rintro e wp ⟨⟨z, rfl, hzz1, hzz2⟩, h9⟩; cases h9)
              | (at_builtin; refine wpList_append_own2 rfl _ _ 23 rfl wx.heap.size 3 i0 _ 1 8 Tryz.underlying23 hi hz0 hz1 hz2 rfl (by decide) _ _ _ rfl (hown.alloc _) ⟨wr.heap.size, 0, none⟩ 1 1 [.int .i64 z] rfl (by simp) (cell_one_new _ _ _) (by intro u hu; simp at hu; subst hu; rfl) (by unfold maxLen; omega) (by omega) (by have := hB.size; simp; omega) ?_
                 intro v' w5 hown5 hg5 hn5
                 have HN5 : Hid (Below wx.heap.size wx w5 ∧ w5.ownsRow wx.heap.size 3 1 v' (j + 1) ((xs ++ [z]).map (.int .i64)) ∧ okIn (xs ++ [z]) = true) := ⟨(hB.alloc hB.size _).trans ⟨hg5.os, hg5.tape, hg5.output, hg5.size, fun k hk => hg5.block k (by have := hB.size; simp; omega) (fun e => by have := (hown.lt k e.symm).1; omega)⟩, by rw [List.map_append]; exact hown5, ok_snoc hxo hzz1 hzz2⟩
                 obtain ⟨va3, vc3, rfl⟩ := owned_slice hown5))
            go_roundw
            case rel => exact ⟨j + 1, xs ++ [z], by go_num, by omega, by simp [hxl], HN5.out.2.2, HN5.out.2.1, HN5.out.1⟩
            case measure => simp [intOf]; omega
          · have hji : ¬ (j : Int) < (inp.length : Int) := by omega
            obtain ⟨va2, vc2, hva⟩ := owned_slice hown
            subst hva
            have HIN : Hid (∀ W, Below wr.heap.size wr W → IntsAt W (.slice va2 j vc2) xs) := fun W h => (own_ints hown hxl (by unfold maxLen; omega) hxo).under h
            obtain ⟨⟨oc, out, ou⟩, ho⟩ : ∃ o, outcome (treeOf (joinG [32] ws)) xs fu = o := ⟨_, rfl⟩
            have hou : ou ≤ fu := by have := used_le (l := joinG [32] ws) (by rw [HE.out.2.1]) xs fu; rw [ho] at this; exact this
            have houi : (ou : Int) ≤ (fu : Int) := by omega
            have R1 : Hid (∀ W, IntsAt W (.slice va2 j vc2) xs → Calls Tryz.prog 19 #[.string ⟨(joinG [32] ws).toArray⟩, .slice va2 j vc2, .int .i64 (fu : Nat)] W fun e w' => Below W.heap.size W w' ∧ ∃ oa oc', e = .returned (.tuple #[.agg #[.int .i64 (oc : Nat), .slice oa out.length oc', .int .i64 (ou : Nat)], .int .i64 0, .int .i64 0]) ∧ Hid (OutAt w' (.agg #[.int .i64 (oc : Nat), .slice oa out.length oc', .int .i64 (ou : Nat)]) (oc, out, ou))) := fun W h =>
              run_is (o := (oc, out, ou)) (by rw [HE.out.2.1]) (by rw [Int.toNat_natCast]; exact ho) (by omega) hxo h (by omega)
            have R2 : Hid (∀ W, IntsAt W (.slice va2 j vc2) xs → Calls Tryz.prog 19 #[.string ⟨S.toArray⟩, .slice va2 j vc2, .int .i64 (fu : Nat)] W fun e w' => Below W.heap.size W w' ∧ ∃ oa oc', e = .returned (.tuple #[.agg #[.int .i64 (oc : Nat), .slice oa out.length oc', .int .i64 (ou : Nat)], .int .i64 0, .int .i64 0]) ∧ Hid (OutAt w' (.agg #[.int .i64 (oc : Nat), .slice oa out.length oc', .int .i64 (ou : Nat)]) (oc, out, ou))) := fun W h =>
              run_is (o := (oc, out, ou)) (by rw [HE.out.1]) (by rw [Int.toNat_natCast, HE.out.2.2.1]; exact ho) (by omega) hxo h (by omega)
            have Jn := fun (W : World) => joined_any lb lc ws [32] W (by omega) (by have := HE.out.2.2.2; omega)
            unfold strV at Jn
            have HBr : Hid (Below w.heap.size w wr) := HBx.out.trans (hB.mono HBx.out.size)
            clear HE ho hown hxo hxl HPx
            generalize joinG [32] ws = J at *
            go_wp2_with (first
              | (go_at_call 26; refine Calls.mono (same_eq (o := (oc, out, ou)) (HO1.out.below ((below_one hb2).alloc (below_one hb2).size _)) (HO2.out.below ((Below.refl _ _).alloc (Nat.le_refl _) _))) ?_; rintro e w4 ⟨rfl, hb4⟩; have f2 : w4.cell? ⟨w1.heap.size, 2, none⟩ = some (.int .i64 (ou : Nat)) := (by rw [hb4.cell (p := ⟨w1.heap.size, 2, none⟩) (by simp; omega), World.cell?_alloc_lt _ _ _ hlt12]; exact k2))
              | (go_at_call 19; have _q := hb1; refine Calls.mono (R2.out _ (HIN.out _ (hb1.alloc hb1.size _))) ?_; rintro e w2 ⟨hb2, pa, pc, rfl, HO2⟩; have hlt12 : w1.heap.size < w2.heap.size := (by have := hb2.size; simp at this; omega); have k0 : w2.cell? ⟨w1.heap.size, 0, none⟩ = some (.int .i64 (oc : Nat)) := kept_one hb2 0; have k1 : w2.cell? ⟨w1.heap.size, 1, none⟩ = some (.slice oa out.length oc') := kept_one hb2 1; have k2 : w2.cell? ⟨w1.heap.size, 2, none⟩ = some (.int .i64 (ou : Nat)) := kept_one hb2 2)
              | (go_at_call 19; refine Calls.mono (R1.out _ (HIN.out _ (Below.refl _ _))) ?_; rintro e w1 ⟨hb1, oa, oc', rfl, HO1⟩)
              | (go_at_call 25; refine (Jn _ (HWx.out _ hB)).mono ?_; rintro e wj ⟨rfl, h9⟩; cases h9))
            go_ret
            have q2 := below_one hb2
            have q4 := q2.trans ((below_one hb4).mono q2.size)
            have q5 := hb1.trans (q4.mono hb1.size)
            exact ⟨rfl, HBr.out.trans (q5.mono HBr.out.size)⟩

end Go.Proofs.YtklobognaldjpaaGreat

namespace Go.Proofs.YtklobognaldjpaaGreat
open Go.ChangeShapes Go.WideShapes Go.ChangeAt Go.RowKit

theorem row_own : ownKnob Tryz.prog.godebug = none := by kernel_rfl
theorem row_laidOut : laidOutB Tryz.prog = true := by kernel_rfl
theorem row_bytes : Tryz.prog.bytesOf 3 = 8 := by kernel_rfl

/-- A list of numbers that came in. -/
theorem ints_came {W : World} {x : Addr} {len cap : Nat} {zs : List Int} (hl : len ≤ cap) (hm : cap ≤ maxLen) (hz : zs.length = cap) (hcell : ∀ i, i < zs.length → W.cell? (x.add i) = some (.int .i64 (zs.getD i 0))) (hwf : ∀ n ∈ zs, (Lit.int .i64 n).wf = true) :
    IntsAt W (.slice (some x) len cap) (zs.take len) := by
  have hlen : (zs.take len).length = len := by rw [List.length_take]; omega
  refine ⟨some x, cap, by rw [hlen], by omega, fun n hn => bounds_i64 (hwf n (List.mem_of_mem_take hn)), ?_⟩
  by_cases h0 : len = 0
  · exact .inl (by rw [h0]; rfl)
  · obtain ⟨b, off, spot⟩ := x
    have hc := hcell 0 (by omega)
    have hspot : spot = none := by simpa [Addr.add] using World.cell?_spot hc
    subst hspot
    have hcells : ∀ i, i < (zs.take len).length → W.cell? ⟨b, off + i, none⟩ = some (.int .i64 ((zs.take len).getD i 0)) := by
      intro i hi
      rw [hlen] at hi
      have h1 := hcell i (by omega)
      have e : (zs.take len).getD i 0 = zs.getD i 0 := by simp [List.getD, hi]
      rw [e]
      cases i with
      | zero => simpa [Addr.add] using h1
      | succ i => simpa [Addr.add] using h1
    refine .inr ⟨b, off, rfl, ?_, hcells⟩
    exact lt_of_cell (hcells 0 (by omega))

theorem ints_param {H : Type} {enc : TypeId × Value → H} {W : World} {a : Option Addr} {len cap : Nat} {d : DataW H} {p : List MemPlace} (h : DataW.Trod enc Tryz.prog W 0 (fun _ => true) true 23 (.slice a len cap) d p) :
    ∃ ys, IntsAt W (.slice a len cap) ys ∧ (ys = [] ∨ ∃ e s, d = .slice e s ∧ ys.length ≤ e.length + s.length) := by
  obtain ⟨fuel, hf⟩ := h
  rcases open_ints Tryz.underlying23 Tryz.underlying3 (by kernel_rfl) hf with ⟨hcs, _⟩ | ⟨x, l, c, zs, hcs, _, hl, hm, hz, hx, hcell, hwz⟩
  · simp [Value.cells] at hcs
    obtain ⟨rfl, rfl, rfl⟩ := hcs
    exact ⟨[], IntsAt.nil W, .inl rfl⟩
  · simp [Value.cells] at hcs
    obtain ⟨rfl, rfl, rfl⟩ := hcs
    injection hx with hx1 _
    refine ⟨zs.take len, ints_came hl hm (by simpa using hz) hcell hwz, .inr ⟨_, _, hx1, ?_⟩⟩
    simp [lits]

theorem ints_size {H : Type} {ts : List TypeId} {ds : List (DataW H)} {j : Nat} {d : DataW H} {ys : List Int} (hsz : (DataW.weightsEach Tryz.prog ts ds).all (· ≤ reachBytes) = true) (ht : ts[j]? = some 23) (hd : ds[j]? = some d) (h : ys = [] ∨ ∃ e s, d = .slice e s ∧ ys.length ≤ e.length + s.length) : ys.length ≤ 17592186044416 := by
  rcases h with rfl | ⟨e, s, rfl, hl⟩
  · simp
  · have := sized_slice hsz ht hd Tryz.underlying23
    rw [row_bytes] at this
    have h2 := reachBytes_lt
    omega

set_option maxRecDepth 100000 in
theorem row_lifted (os : Os) (started : os.Started) (H : Type) (enc : TypeId × Value → H) :
    ReturnsInHanded {} Tryz.checked os 6 .any (Rows.spacedSpec.pre6 enc Tryz.prog Tryz.f6 Rows.spacedRow.domain false) (Rows.spacedSpec.post enc Tryz.prog Tryz.f6 false true false false) := by
  refine returnsInHanded_of_change_sized (C := Tryz.checked) row_own started (by kernel_rfl) Tryz.func6
    (ChangeSpec.witness6 (enc := enc) (C := Tryz.checked) false ⟨#[], #[.slice none 0 0, .slice none 0 0, .slice none 0 0, .int .i64 0], []⟩ 8 (by kernel_rfl) (by kernel_rfl) (by kernel_rfl) (by kernel_rfl)) ?_
  intro W base args ds gs before hval0 hW hcnd hsz0 _
  have hsz : (DataW.weightsEach Tryz.prog (Tryz.f6.params.toList ++ Rows.spacedSpec.plain.varTypes Tryz.prog) (ds ++ gs)).all (· ≤ reachBytes) = true := hsz0
  clear hsz0
  have hval : ∀ (j : Nat) t v, Tryz.f6.params[j]? = some t → args[j]? = some v → Value.okWide Tryz.prog W .any base t v := hval0
  have hW' := hW
  obtain ⟨p, q, hA0, hV, rfl, hfz, hnd⟩ := hW
  have hA : DataW.TrodAll enc Tryz.prog W 0 (fun _ => true) true Tryz.f6.params.toList args.toList ds p := hA0
  rw [Tryz.params6] at hA hval hsz
  obtain ⟨v0, vs0, d0, ds0, p0, q0, hargs, rfl, rfl, h0, r0⟩ := trodAll_cons hA
  obtain ⟨v1, vs1, d1, ds1, p1, q1, rfl, rfl, rfl, h1, r1⟩ := trodAll_cons r0
  obtain ⟨v2, vs2, d2, ds2, p2, q2, rfl, rfl, rfl, h2, r2⟩ := trodAll_cons r1
  obtain ⟨v3, vs3, d3, ds3, p3, q3, rfl, rfl, rfl, h3, r3⟩ := trodAll_cons r2
  obtain ⟨rfl, rfl, rfl⟩ := trodAll_nil r3
  obtain rfl : args = #[v0, v1, v2, v3] := by cases args; simp_all
  obtain ⟨rfl, rfl⟩ := trodVars_none hV
  obtain ⟨a0, len0, cap0, rfl⟩ := okWide_slice Tryz.underlying23 (hval 0 23 v0 rfl rfl)
  obtain ⟨a1, len1, cap1, rfl⟩ := okWide_slice Tryz.underlying23 (hval 1 23 v1 rfl rfl)
  obtain ⟨a2, len2, cap2, rfl⟩ := okWide_slice Tryz.underlying23 (hval 2 23 v2 rfl rfl)
  have lt0 : ∀ x ∈ p0, x.block < W.heap.size := by obtain ⟨m, hm⟩ := h0; exact DataW.trod_lt m _ _ _ hm
  have lt1 : ∀ x ∈ p1, x.block < W.heap.size := by obtain ⟨m, hm⟩ := h1; exact DataW.trod_lt m _ _ _ hm
  have lt2 : ∀ x ∈ p2, x.block < W.heap.size := by obtain ⟨m, hm⟩ := h2; exact DataW.trod_lt m _ _ _ hm
  obtain ⟨y0, i0, _⟩ := ints_param h0
  obtain ⟨y1, i1, z1⟩ := ints_param h1
  obtain ⟨y2, i2, z2⟩ := ints_param h2
  have b1 := ints_size (j := 1) hsz rfl rfl z1
  have b2 := ints_size (j := 2) hsz rfl rfl z2
  obtain ⟨a3, rfl, rfl, rfl, w3⟩ := open_int Tryz.underlying3 (hval 3 3 v3 rfl rfl) h3
  clear hA0 hval0
  obtain ⟨g1, g2⟩ := bounds_i64 w3
  refine (Spaced_any (.slice a0 len0 cap0) (.slice a1 len1 cap1) (.slice a2 len2 cap2) y0 y1 y2 a3 W i0 i1 i2 b1 b2 g1 g2).mono fun e W' ⟨he, bel⟩ => ?_
  subst he
  exact ⟨_, rfl, _, _, _, [], _, [], hW', trodAll_mk1 (shut_bool Tryz.underlying4 _), (trodAll_cons_mk (Below.trod row_laidOut (by kernel_rfl) (of_decide_eq_true (by kernel_rfl)) h0 bel lt0) (trodAll_cons_mk (Below.trod row_laidOut (by kernel_rfl) (of_decide_eq_true (by kernel_rfl)) h1 bel lt1) (trodAll_cons_mk (Below.trod row_laidOut (by kernel_rfl) (of_decide_eq_true (by kernel_rfl)) h2 bel lt2) (trodAll_cons_mk (shut_int Tryz.underlying3 w3) trodAll_mk0)))), rfl, bel.frame _, fun h => by cases h⟩

theorem row_over : Rows.spacedRow.holds Tryz.pinned (OpenSpec.ofChange Rows.spacedSpec) :=
  OpenClaim.holds_of_wide 6 Tryz.f6 rfl rfl rfl rfl rfl rfl rfl ⟨rfl, rfl, rfl, rfl, rfl⟩ rfl rfl rfl rfl rfl (by kernel_rfl) Tryz.func6 (by kernel_rfl)
    (of_decide_eq_true (by kernel_rfl)) (by unfold Func.isWrapper; first | (rw [if_pos (by decide +kernel)]; kernel_rfl) | (rw [if_neg (by decide +kernel)]; exact ⟨rfl, rfl⟩))
    (fun os started H enc _ => row_lifted os started H enc)

theorem spaced_holds : Rows.SpacedSaid :=
  row_over
#print axioms spaced_holds

end Go.Proofs.YtklobognaldjpaaGreat
