/- What package lecternkeep does: sum. -/
import Derived.Test.YtklobognaldjpaaGreatCSm2
import Derived.Deep.RegionHeld3
import Derived.Deep.RegionLaw
import Derived.BigRegion
import Derived.Deep.CutRange
import Derived.Deep.CutBlock
import Derived.Deep.DeepCutAuto
import Derived.StillTailTactics
import Derived.Test.YtklobognaldjpaaGreatCParse10
namespace Go.Proofs.YtklobognaldjpaaGreat
open Go.RowKit

/-- What sum answers. -/
def SumPost (w : World) (e : Ending) (w' : World) : Prop := ∃ t v d, It t v d ∧ e = .returned (.agg #[.string ⟨t.toArray⟩, .int .i64 v, .int .i64 (d : Nat)]) ∧ Below w.heap.size w w'

theorem tdiv_range {z : Int} (h1 : -9223372036854775808 ≤ z) (h2 : z ≤ 9223372036854775807) : -9223372036854775808 ≤ z.tdiv 32 ∧ z.tdiv 32 ≤ 9223372036854775807 := by
  by_cases h : 0 ≤ z
  · rw [Int.tdiv_eq_ediv_of_nonneg h]; omega
  · have e : z.tdiv 32 = -((-z).tdiv 32) := by rw [Int.neg_tdiv, Int.neg_neg]
    rw [e, Int.tdiv_eq_ediv_of_nonneg (by omega)]; omega

theorem pick_nat (c : Int) {n : Nat} (hn : 0 < n) : ∃ q : Nat, pickI c n = q ∧ q < n :=
  ⟨(pickI c n).toNat, by have := (pickI_lt c (n := n) hn).2.1; omega, (pickI_lt c (n := n) hn).1⟩

theorem last_two (l : List I3) (h : 2 ≤ l.length) : ∃ a x y, l = a ++ [x, y] := by
  refine ⟨l.take (l.length - 2), l[l.length - 2], l[l.length - 1], ?_⟩
  apply List.ext_getElem?
  intro i
  by_cases h1 : i < l.length - 2
  · rw [List.getElem?_append_left (by rw [List.length_take]; omega), List.getElem?_take, if_pos h1]
  · rw [List.getElem?_append_right (by rw [List.length_take]; omega), List.length_take, Nat.min_eq_left (by omega)]
    by_cases h2 : i = l.length - 2
    · subst h2; simp
    · by_cases h3 : i = l.length - 1
      · subst h3
        rw [show l.length - 1 - (l.length - 2) = 1 by omega]
        simp
      · rw [List.getElem?_eq_none (by omega), List.getElem?_eq_none (by simp; omega)]

theorem last_one (l : List I3) (h : 1 ≤ l.length) : ∃ a x, l = a ++ [x] := by
  have hne : l ≠ [] := fun e => by subst e; simp at h
  exact ⟨l.dropLast, l.getLast hne, (List.dropLast_concat_getLast hne).symm⟩

theorem owned_slice2 {w : World} {base : Nat} {e : TypeId} {size : Nat} {v : Value} {n : Nat} {xs : List Value} (h : w.ownsRow base e size v n xs) : ∃ a c, v = .slice a n c := by
  rcases h.2 with ⟨h3, h4⟩ | ⟨g, c, cur, h3, _⟩
  · exact ⟨none, 0, by rw [h3, h4]⟩
  · exact ⟨_, _, h3⟩

theorem below_set {b k o : Nat} {v : Value} {w w' : World} (h : Below b w w') (hk : b ≤ k) : Below b w (w'.setCell ⟨k, o, none⟩ v) :=
  ⟨h.os, h.tape, h.output, Nat.le_trans h.size (by simp [World.setCell]), fun i hi => by rw [Below.heap_setCell _ _ _ _ (show i ≠ k by omega)]; exact h.block i hi⟩

/-- What lies on top. -/
theorem si_last {w1 wr : World} {va : Option Addr} {n vc : Nat} {its : List I3} (h : SI w1 (.slice va n vc) its wr) (hn : its.length = n) (h1 : 1 ≤ n) :
    ∃ k a x g, n = k + 1 ∧ its = a ++ [x] ∧ a.length = k ∧ va = some ⟨g, 0, none⟩ ∧ wr.cell? ⟨g, k * 3, none⟩ = some (.string ⟨x.1.toArray⟩) ∧ wr.cell? ⟨g, k * 3 + 1, none⟩ = some (.int .i64 x.2.1) ∧ wr.cell? ⟨g, k * 3 + 2, none⟩ = some (.int .i64 (x.2.2 : Nat)) ∧ It x.1 x.2.1 x.2.2 ∧ g < wr.heap.size ∧ n ≤ vc ∧ (∀ o, wr.frozen? ⟨g, o, none⟩ = false) := by
  obtain ⟨a, x, rfl⟩ := last_one its (by omega)
  have hk : n = a.length + 1 := by simpa using hn.symm
  obtain ⟨g, cap, hv, _, hg⟩ := h.own.form (by omega)
  rw [hn] at hv
  injection hv with e1 _ e2
  subst e1
  subst e2
  obtain ⟨x0, x1, x2⟩ := h.at (b := []) hn.symm
  have hown := h.own
  rw [hn] at hown
  refine ⟨a.length, a, x, g, hk, rfl, rfl, rfl, x0, x1, x2, h.ok x (by simp), hg, ?_, fun o => hown.frozenAt o⟩
  rcases hown.2 with ⟨e, _⟩ | ⟨g', cap', cur, e, _, _, hle, _⟩
  · cases e
  · injection e with e1 e2 e3; omega

theorem last_bool (its : List I3) : ∃ L : Bool, ∀ (a : List I3) (x : I3), its = a ++ [x] → L = (decide (x.2.2 < 9) && decide (x.1.length < 300)) := by
  by_cases h0 : its.length = 0
  · exact ⟨true, fun a x e => by rw [e] at h0; simp at h0⟩
  · obtain ⟨a, x, e⟩ := last_one its (by omega)
    refine ⟨decide (x.2.2 < 9) && decide (x.1.length < 300), fun a' x' e' => ?_⟩
    rw [e] at e'
    have := (List.append_inj' e' rfl).2
    cases this
    rfl

theorem le_alloc_drew (w : World) (A : Obj) : w.heap.size ≤ (w.alloc A).drew.heap.size := by
  show _ ≤ (w.alloc A).heap.size
  simp

theorem two_text (tx ty sg : List UInt8) : (⟨([40, 32] ++ tx ++ [32] ++ sg ++ [32] ++ ty ++ [32, 41]).toArray⟩ : ByteArray) = ⟨#[40, 32]⟩ ++ ⟨tx.toArray⟩ ++ ⟨#[32]⟩ ++ ⟨sg.toArray⟩ ++ ⟨#[32]⟩ ++ ⟨ty.toArray⟩ ++ ⟨#[32, 41]⟩ := by
  rw [← str_add, ← str_add, ← str_add, ← str_add, ← str_add, ← str_add]

theorem two_new (w : World) (a b c d e f : Value) (t : TypeId) : (∀ j u, #[a, b, c][j]? = some u → ((w.alloc (.cells #[a, b, c] t)).alloc (.cells #[d, e, f] t)).cell? ⟨w.heap.size, j, none⟩ = some u) ∧ (∀ j u, #[d, e, f][j]? = some u → ((w.alloc (.cells #[a, b, c] t)).alloc (.cells #[d, e, f] t)).cell? ⟨w.heap.size + 1, j, none⟩ = some u) := by
  refine ⟨fun j u hj => ?_, fun j u hj => ?_⟩
  · refine kept_at ((Below.refl _ _).alloc (Nat.le_refl _) _) ?_
    rw [World.cell?_alloc_new]; exact hj
  · have := World.cell?_alloc_new (w.alloc (.cells #[a, b, c] t)) #[d, e, f] t j
    rw [show (w.alloc (.cells #[a, b, c] t)).heap.size = w.heap.size + 1 by simp] at this
    rw [this]; exact hj

set_option maxRecDepth 1000000 in
set_option maxHeartbeats 40000000 in
theorem sum_any (v : Value) (zs : List Int) (w : World) (hin : IntsAt w v zs) (hl : zs.length ≤ 1048576) :
    Calls Tryz.prog 18 #[v] w (SumPost w) := by
  obtain ⟨i0, hi, hz0, hz1, hz2⟩ := info_parts Tryz.infoSum
  have HI : Hid (∀ W, Below w.heap.size w W → IntsAt W v zs) := fun W h => hin.over h
  obtain ⟨ra, rc, rfl, _⟩ := hin
  go_enter Tryz.func18, Tryz.ntmps18
  go_wp2
  have hb1 : Below w.heap.size w (w.alloc (.cells #[.string ByteArray.empty, .int .i64 0, .int .i64 0] 35)) := (Below.refl _ _).alloc (Nat.le_refl _) _
  have HB1 : Hid (Below w.heap.size w (w.alloc (.cells #[.string ByteArray.empty, .int .i64 0, .int .i64 0] 35))) := hb1
  clear hb1
  go_loopw [3, 4] (fun s i wr => ∃ (its : List I3) (j : Nat), i = .int .i64 j ∧ j ≤ zs.length ∧ its.length ≤ j ∧ SI (w.alloc (.cells #[.string ByteArray.empty, .int .i64 0, .int .i64 0] 35)) s its wr) (fun _ i _ => zs.length - (intOf i).toNat)
  case atStart => exact ⟨[], 0, rfl, Nat.zero_le _, Nat.zero_le _, World.ownsRow_nil _ _ _ _, fun x hx => by simp at hx, Below.refl _ _⟩
  case round =>
    obtain ⟨its, j, rfl, hj, hlen, hS⟩ := hrel
    have HS : Hid (SI (w.alloc (.cells #[.string ByteArray.empty, .int .i64 0, .int .i64 0] 35)) _ its wr) := hS
    by_cases hlt : j < zs.length
    · have hji : (j : Int) < (zs.length : Int) := by omega
      obtain ⟨g2, gc2, ge, gm, gr, gcs⟩ := HI.out wr (HB1.out.trans (hS.bel.mono HB1.out.size))
      rcases gcs with h0 | ⟨gb, goff, hge, hgb, gcs⟩
      · rw [h0] at hlt; simp at hlt
      subst hge
      injection ge with ge1 _ ge2
      subst ge1
      subst ge2
      have hgc := gcs j hlt
      have hrz := gr (zs.getD j 0) (by simp [List.getD, hlt])
      generalize zs.getD j 0 = z at *
      obtain ⟨p, hp, hpl⟩ := pick_nat z (n := 20) (by omega)
      have hP20 := fun W => pick_any z 20 W hrz.1 hrz.2 (by omega) (by omega)
      rw [show pickI z 20 = (p : Int) from hp] at hP20
      have htr := tdiv_range hrz.1 hrz.2
      clear gcs gr
      unfold maxLen at gm
      obtain ⟨c, hc⟩ : ∃ c, z.tdiv 32 = c := ⟨_, rfl⟩
      rw [hc] at htr
      obtain ⟨q, hq, hql⟩ := pick_nat c (n := 10) (by omega)
      obtain ⟨r, hr, hrl⟩ := pick_nat c (n := 2147483648) (by omega)
      have hPa := fun W => pick_any c 10 W htr.1 htr.2 (by omega) (by omega)
      have hPb := fun W => pick_any c 2147483648 W htr.1 htr.2 (by omega) (by omega)
      rw [show pickI c 10 = (q : Int) from hq] at hPa
      rw [show pickI c 2147483648 = (r : Int) from hr] at hPb
      clear hp hq hr
      obtain ⟨va, vc, hva⟩ := owned_slice2 hS.own
      subst hva
      have hgl : ∀ b, (Value.slice va its.length vc).ownBlock = some b → b < wr.heap.size := fun b hb => (hS.own.lt b hb).2
      clear hS
      obtain ⟨n, hn⟩ : ∃ n, its.length = n := ⟨_, rfl⟩
      rw [hn] at hgl HS ⊢
      have HN : Hid (its.length = n) := hn
      have hnj : n ≤ j := by omega
      clear hn hlen
      obtain ⟨B, hB⟩ : ∃ B : Bool, B = (decide (2 ≤ n) && decide (p < 11)) := ⟨_, rfl⟩
      have HBB : Hid (B = (decide (2 ≤ n) && decide (p < 11))) := hB
      clear hB
      go_upto_region 10 with (go_at_call 23; refine (hP20 _).mono ?_; rintro e wp ⟨rfl, h9⟩; cases h9)
      go_cut [42] from 15 to 233 (fun s wx => s = .bool B ∧ wx = wr)
      case first =>
        by_cases h2 : 2 ≤ n
        · have h2i : (2 : Int) ≤ (n : Int) := by omega
          by_cases h11 : p < 11
          · have h11i : (p : Int) < 11 := by omega
            have e9 : B = true := by rw [HBB.out]; simp [h2, h11]
            subst e9
            clear HBB
            as_aux_lemma =>
              go_wp2_with fail
              go_meet
              exact ⟨rfl, rfl⟩
          · have h11i : ¬ (p : Int) < 11 := by omega
            have e9 : B = false := by rw [HBB.out]; simp [h11]
            subst e9
            clear HBB
            as_aux_lemma =>
              go_wp2_with fail
              go_meet
              exact ⟨rfl, rfl⟩
        · have h2i : ¬ (2 : Int) ≤ (n : Int) := by omega
          have e9 : B = false := by rw [HBB.out]; simp [h2]
          subst e9
          clear HBB
          as_aux_lemma =>
            go_wp2_with fail
            go_meet
            exact ⟨rfl, rfl⟩
      case rest =>
      obtain ⟨rfl, hwc⟩ := hcut
      obtain rfl : wr = wc := hwc.symm
      cases B with
      | true =>
        have h9 : 2 ≤ n ∧ p < 11 := by have := HBB.out; simpa using this.symm
        obtain ⟨h2, h11⟩ := h9
        clear HBB hPa hPb hP20 hrl hql
        obtain ⟨k, rfl⟩ : ∃ k, n = k + 2 := ⟨n - 2, by omega⟩
        obtain ⟨a, x, y, hits⟩ := last_two its (by have := HN.out; omega)
        subst hits
        have hka : a.length = k := by have := HN.out; simpa using this
        obtain ⟨g, cap, hva, _, hgw⟩ := HS.out.own.form (by rw [HN.out]; omega)
        rw [HN.out] at hva
        injection hva with hva1 _ hva2
        subst hva1
        subst hva2
        obtain ⟨x0, x1, x2⟩ := HS.out.at (b := [y]) HN.out.symm
        have hS2 : SI (w.alloc (.cells #[.string ByteArray.empty, .int .i64 0, .int .i64 0] 35)) (.slice (some ⟨g, 0, none⟩) (k + 2) vc) ((a ++ [x]) ++ [y]) wr := by rw [List.append_assoc]; exact HS.out
        obtain ⟨y0, y1, y2⟩ := hS2.at (b := []) (by simp; omega)
        have hix := HS.out.ok x (by simp)
        have hiy := HS.out.ok y (by simp)
        rw [hka] at x0 x1 x2
        rw [show (a ++ [x]).length = k + 1 by simp; omega] at y0 y1 y2
        obtain ⟨tx, vx, dx⟩ := x
        obtain ⟨ty, vy, dy⟩ := y
        simp only at x0 x1 x2 y0 y1 y2 hix hiy
        have lx := hix.len
        have ly := hiy.len
        have dx9 := hix.d9
        have dy9 := hiy.d9
        have hTw := fun W => two_any h11 vx vy W hix.lo hix.hi hiy.lo hiy.hi
        obtain ⟨vv, bb, htv⟩ : ∃ vv bb, twoV p vx vy = (vv, bb) := ⟨_, _, rfl⟩
        rw [htv] at hTw
        have HIX : Hid (It tx vx dx ∧ It ty vy dy ∧ twoV p vx vy = (vv, bb)) := ⟨hix, hiy, htv⟩
        have h11i : (p : Int) < 11 := by omega
        have hcp : k + 2 ≤ vc := by
          rcases HS.out.own.2 with ⟨e, _⟩ | ⟨g', cap', cur, e, _, _, hle, _⟩
          · cases e
          · injection e with e1 e2 e3; have := HN.out; omega
        clear hix hiy htv hS2
        obtain ⟨B4, hB4⟩ : ∃ B4 : Bool, B4 = (bb && decide (tx.length + ty.length < 300) && decide (max dx dy < 9)) := ⟨_, rfl⟩
        have HB4 : Hid (B4 = (bb && decide (tx.length + ty.length < 300) && decide (max dx dy < 9))) := hB4
        clear hB4
        go_upto_region 15 with (first
          | (go_at_call 46; refine (signs_any _).mono ?_; rintro e ws ⟨sb, rfl, hbs, hsl, hsl2, hsc⟩; have sg := hsc p h11; obtain ⟨q0, q1⟩ := two_new wr (.string ⟨tx.toArray⟩) (.int .i64 vx) (.int .i64 (dx : Nat)) (.string ⟨ty.toArray⟩) (.int .i64 vy) (.int .i64 (dy : Nat)) 35; have u0 : ws.cell? ⟨wr.heap.size, 0, none⟩ = some (.string ⟨tx.toArray⟩) := kept_at hbs (q0 0 _ rfl); have u1 : ws.cell? ⟨wr.heap.size, 1, none⟩ = some (.int .i64 vx) := kept_at hbs (q0 1 _ rfl); have u2 : ws.cell? ⟨wr.heap.size, 2, none⟩ = some (.int .i64 (dx : Nat)) := kept_at hbs (q0 2 _ rfl); have s0 : ws.cell? ⟨wr.heap.size + 1, 0, none⟩ = some (.string ⟨ty.toArray⟩) := kept_at hbs (q1 0 _ rfl); have s1 : ws.cell? ⟨wr.heap.size + 1, 1, none⟩ = some (.int .i64 vy) := kept_at hbs (q1 1 _ rfl); have s2 : ws.cell? ⟨wr.heap.size + 1, 2, none⟩ = some (.int .i64 (dy : Nat)) := kept_at hbs (q1 2 _ rfl); clear q0 q1 hsc)
          | (go_at_call 47; refine (hTw _).mono ?_; rintro e wt ⟨rfl, h9⟩; cases h9))
        have hslen : (sgnL p).length ≤ 3 := sgnL_len h11
        have HB5 : Hid (Below wr.heap.size wr ws) := ((((Below.refl wr.heap.size wr).alloc (Nat.le_refl _) _).alloc (by simp) _).trans (hbs.mono (by simp; omega)))
        have hws : wr.heap.size + 2 ≤ ws.heap.size := by have := hbs.size; simp at this; omega
        clear hbs x0 x1 x2 y0 y1 y2 hsl hTw sg
        generalize hsg : sgnL p = sgp at *
        have HSG : Hid (sgnL p = sgp) := hsg
        clear hsg
        go_cut [90] from 15 to 233 (fun s wx => s = .bool B4 ∧ wx = ws)
        case first =>
          cases bb with
          | false =>
            have e9 : B4 = false := by rw [HB4.out]; simp
            subst e9
            clear HB4
            as_aux_lemma =>
              go_wp2_with fail
              go_meet
              exact ⟨rfl, rfl⟩
          | true =>
            by_cases hle : tx.length + ty.length < 300
            · have hlei : (tx.length : Int) + (ty.length : Int) < 300 := by omega
              by_cases hmx : max dx dy < 9
              · have e9 : B4 = true := by rw [HB4.out]; simp [hle, hmx]
                subst e9
                clear HB4
                have hm1 : (dx : Int) < 9 := by omega
                have hm2 : (dy : Int) < 9 := by omega
                as_aux_lemma =>
                  go_wp2_with fail
                  go_meet
                  exact ⟨congrArg Value.bool (decide_eq_true (by omega)), rfl⟩
              · have e9 : B4 = false := by rw [HB4.out]; simp [hmx]
                subst e9
                clear HB4
                by_cases hm1 : dx < 9
                · have hm1i : (dx : Int) < 9 := by omega
                  have hm2i : ¬ (dy : Int) < 9 := by omega
                  as_aux_lemma =>
                    go_wp2_with fail
                    go_meet
                    exact ⟨congrArg Value.bool (decide_eq_false (by omega)), rfl⟩
                · have hm1i : ¬ (dx : Int) < 9 := by omega
                  as_aux_lemma =>
                    go_wp2_with fail
                    go_meet
                    exact ⟨congrArg Value.bool (decide_eq_false (by omega)), rfl⟩
            · have hlei : ¬ (tx.length : Int) + (ty.length : Int) < 300 := by omega
              have e9 : B4 = false := by rw [HB4.out]; simp [hle]
              subst e9
              clear HB4
              as_aux_lemma =>
                go_wp2_with fail
                go_meet
                exact ⟨rfl, rfl⟩
        case rest =>
        obtain ⟨rfl, hwc⟩ := hcut
        obtain rfl : ws = wc := hwc.symm
        cases B4 with
        | false =>
          skip
          as_aux_lemma =>
            go_wp2
            go_roundw
            case rel => exact ⟨_, j + 1, by go_num, by omega, by rw [HN.out]; omega, HS.out.below HB5.out⟩
            case measure => simp [intOf]; omega
        | true =>
          skip
          as_aux_lemma =>
            have h9 : bb = true ∧ tx.length + ty.length < 300 ∧ max dx dy < 9 := by have := HB4.out; simpa [and_assoc] using this.symm
            obtain ⟨rfl, hle, hmx⟩ := h9
            have hS5 := HS.out.below HB5.out
            have hcut5 := hS5.cut HN.out.symm
            rw [hka] at hcut5
            have HOWN : Hid (∀ A, (ws.alloc A).drew.ownsRow (w.alloc (.cells #[.string ByteArray.empty, .int .i64 0, .int .i64 0] 35)).heap.size 35 3 (.slice (some ⟨g, 0, none⟩) k vc) k (flatI a)) := fun A => by
              have := (hcut5.own.alloc A).drew
              rwa [hka] at this
            have HNB : Hid (∀ (cs : Array Value) (t : TypeId), (ws.alloc (.cells cs t)).drew.heap[ws.heap.size]? = some (.cells cs t (0, 0))) := fun cs t => heap_alloc_new ws _
            have HIT : Hid (It ([40, 32] ++ tx ++ [32] ++ sgnL p ++ [32] ++ ty ++ [32, 41]) vv (1 + max dx dy)) := it_two h11 HIX.out.1 HIX.out.2.1 HIX.out.2.2 hle hmx
            have HC5 : Hid (SI (w.alloc (.cells #[.string ByteArray.empty, .int .i64 0, .int .i64 0] 35)) (.slice (some ⟨g, 0, none⟩) k vc) a ws) := hcut5
            have hbase : (w.alloc (.cells #[.string ByteArray.empty, .int .i64 0, .int .i64 0] 35)).heap.size ≤ ws.heap.size := hcut5.bel.size
            have hcpi : (k : Int) ≤ (vc : Int) := by omega
            have hkk : k ≤ 1048576 := by omega
            have hm1 : (dx : Int) < 9 := by omega
            have hm2 : (dy : Int) < 9 := by omega
            have hwk : IntKind.i64.wrap (k : Int) = (k : Int) := by rw [IntKind.wrap_i64]; omega
            have hwm : IntKind.i64.wrap (1 + max (dx : Int) (dy : Int)) = 1 + max (dx : Int) (dy : Int) := by rw [IntKind.wrap_i64]; omega
            have b1 : ¬ 9223372036854775807 < 2 + tx.length := by omega
            have b2 : ¬ 9223372036854775807 < 2 + tx.length + 1 := by omega
            have b3 : ¬ 9223372036854775807 < 2 + tx.length + 1 + sgp.length := by omega
            have b4 : ¬ 9223372036854775807 < 2 + tx.length + 1 + sgp.length + 1 := by omega
            have b5 : ¬ 9223372036854775807 < 2 + tx.length + 1 + sgp.length + 1 + ty.length := by omega
            have b6 : ¬ 9223372036854775807 < 2 + tx.length + 1 + sgp.length + 1 + ty.length + 2 := by omega
            clear hS5 hcut5 HB4 HS HB5 HIX
            go_upto_region 16 with fail
            have HS0 : Hid (ws.drew.cell? ⟨wr.heap.size, 0, none⟩ = some (.string ⟨tx.toArray⟩) ∧ ws.drew.cell? ⟨wr.heap.size, 2, none⟩ = some (.int .i64 (dx : Nat)) ∧ ws.drew.cell? ⟨wr.heap.size + 1, 0, none⟩ = some (.string ⟨ty.toArray⟩) ∧ ws.drew.cell? ⟨wr.heap.size + 1, 2, none⟩ = some (.int .i64 (dy : Nat))) := ⟨u0, u2, s0, s2⟩
            have HS1 : Hid (∀ A, (ws.alloc A).drew.cell? ⟨wr.heap.size, 0, none⟩ = some (.string ⟨tx.toArray⟩) ∧ (ws.alloc A).drew.cell? ⟨wr.heap.size, 2, none⟩ = some (.int .i64 (dx : Nat)) ∧ (ws.alloc A).drew.cell? ⟨wr.heap.size + 1, 0, none⟩ = some (.string ⟨ty.toArray⟩) ∧ (ws.alloc A).drew.cell? ⟨wr.heap.size + 1, 2, none⟩ = some (.int .i64 (dy : Nat))) := fun A => ⟨kept_at (w := ws) ((Below.refl _ _).alloc (Nat.le_refl _) A).drew u0, kept_at (w := ws) ((Below.refl _ _).alloc (Nat.le_refl _) A).drew u2, kept_at (w := ws) ((Below.refl _ _).alloc (Nat.le_refl _) A).drew s0, kept_at (w := ws) ((Below.refl _ _).alloc (Nat.le_refl _) A).drew s2⟩
            have hgwr : g < wr.heap.size := hgw
            go_region_held3 (fun W => W.cell? ⟨wr.heap.size, 0, none⟩ = some (.string ⟨tx.toArray⟩) ∧ W.cell? ⟨wr.heap.size, 2, none⟩ = some (.int .i64 (dx : Nat)) ∧ W.cell? ⟨wr.heap.size + 1, 0, none⟩ = some (.string ⟨ty.toArray⟩) ∧ W.cell? ⟨wr.heap.size + 1, 2, none⟩ = some (.int .i64 (dy : Nat))) (first | exact HS0.out | exact HS1.out _ | exact HSF.out) ((refine step_append_lies _ (by rfl) _ _ _ (by rfl) (w.alloc (.cells #[.string ByteArray.empty, .int .i64 0, .int .i64 0] 35)).heap.size 35 i0 _ 3 32 Tryz.underlying85 hi hz0 hz1 hz2 rfl (by omega) (.slice (some ⟨g, 0, none⟩) k vc) k (flatI a) (by rfl) (HOWN.out _) ⟨ws.heap.size, 0, none⟩ 1 1 _ (by rfl) (by rfl) (World.news_of_block (HNB.out _ _)) (by simp [Value.oneCell']) (by omega) (by unfold maxLen; omega) (by omega) (Nat.le_trans hbase (le_alloc_drew _ _)) (ws.heap.size + 1) (by simp) ?_; intro gg cp w5 hown5 hgrow5 hat5 hlt5; have HSF : Hid (w5.cell? ⟨wr.heap.size, 0, none⟩ = some (.string ⟨tx.toArray⟩) ∧ w5.cell? ⟨wr.heap.size, 2, none⟩ = some (.int .i64 (dx : Nat)) ∧ w5.cell? ⟨wr.heap.size + 1, 0, none⟩ = some (.string ⟨ty.toArray⟩) ∧ w5.cell? ⟨wr.heap.size + 1, 2, none⟩ = some (.int .i64 (dy : Nat))) := ⟨(by rw [hgrow5.cell_far _ (by simp; omega) (by simp [Value.ownBlock]; omega)]; exact (HS1.out _).1), (by rw [hgrow5.cell_far _ (by simp; omega) (by simp [Value.ownBlock]; omega)]; exact (HS1.out _).2.1), (by rw [hgrow5.cell_far _ (by simp; omega) (by simp [Value.ownBlock]; omega)]; exact (HS1.out _).2.2.1), (by rw [hgrow5.cell_far _ (by simp; omega) (by simp [Value.ownBlock]; omega)]; exact (HS1.out _).2.2.2)⟩))
            all_goals go_wp2
            all_goals go_roundw
            case rel =>
              have e1 : itC ([40, 32] ++ tx ++ [32] ++ sgnL p ++ [32] ++ ty ++ [32, 41], vv, 1 + max dx dy) = #[Value.string (⟨#[40, 32]⟩ ++ ⟨tx.toArray⟩ ++ ⟨#[32]⟩ ++ ⟨sgp.toArray⟩ ++ ⟨#[32]⟩ ++ ⟨ty.toArray⟩ ++ ⟨#[32, 41]⟩), .int .i64 vv, .int .i64 (1 + max (dx : Int) (dy : Int))].toList := by
                unfold itC
                simp only
                rw [HSG.out, two_text, show ((1 + max dx dy : Nat) : Int) = 1 + max (dx : Int) (dy : Int) by omega]
              exact ⟨_, j + 1, by go_num, by omega, by simp; omega, (HC5.out.below ((Below.refl _ _).alloc (Nat.le_refl _) _).drew).grow HIT.out (by rw [e1, hka]; exact hown5) hgrow5⟩
            case measure => simp [intOf]; omega
      | false =>
        obtain ⟨L, hL⟩ := last_bool its
        have HL : Hid (∀ (a : List I3) (x : I3), its = a ++ [x] → L = (decide (x.2.2 < 9) && decide (x.1.length < 300))) := hL
        clear hL HBB hP20
        obtain ⟨B2, hB2⟩ : ∃ B2 : Bool, B2 = (decide (1 ≤ n) && decide (p = 11) && L) := ⟨_, rfl⟩
        have HB2 : Hid (B2 = (decide (1 ≤ n) && decide (p = 11) && L)) := hB2
        obtain ⟨B3, hB3⟩ : ∃ B3 : Bool, B3 = (decide (1 ≤ n) && decide (p = 12) && L) := ⟨_, rfl⟩
        have HB3 : Hid (B3 = (decide (1 ≤ n) && decide (p = 12) && L)) := hB3
        clear hB2 hB3
        go_upto_region 17 with fail
        go_cut [116] from 15 to 233 (fun s wx => s = .bool B2 ∧ wx = wr)
        case first =>
          by_cases h0 : n = 0
          · have h0i : ¬ (1 : Int) ≤ (n : Int) := by omega
            have e9 : B2 = false := by rw [HB2.out]; simp [h0]
            clear h0
            subst e9
            clear HB2
            as_aux_lemma =>
              go_wp2_with fail
              go_meet
              exact ⟨rfl, rfl⟩
          · obtain ⟨k, a, x, g, hk, hits, hka, rfl, x0, x1, x2, hix, hgw, hcp, hfx⟩ := si_last HS.out HN.out (by omega)
            subst hk
            obtain ⟨tx, vx, dx⟩ := x
            have hLx := HL.out a _ hits
            simp only at x0 x1 x2 hix hLx
            have lx := hix.len
            have dx9 := hix.d9
            have h0i : (1 : Int) ≤ (k : Int) + 1 := by omega
            by_cases h1 : p = 11
            · have h1i : decide ((p : Int) = 11) = true := decide_eq_true (by omega)
              have h1j : ((p : Int) == 11) = true := by simp; omega
              by_cases hd : dx < 9
              · have hdi : (dx : Int) < 9 := by omega
                by_cases hle : tx.length < 300
                · have hlei : (tx.length : Int) < 300 := by omega
                  have e9 : B2 = true := by rw [HB2.out, hLx]; simp [h1, hd, hle]
                  subst e9
                  clear HB2 HL hLx h1
                  as_aux_lemma =>
                    go_wp2_with fail
                    go_meet
                    exact ⟨rfl, rfl⟩
                · have hlei : ¬ (tx.length : Int) < 300 := by omega
                  have e9 : B2 = false := by rw [HB2.out, hLx]; simp [hle]
                  subst e9
                  clear HB2 HL hLx h1
                  as_aux_lemma =>
                    go_wp2_with fail
                    go_meet
                    exact ⟨rfl, rfl⟩
              · have hdi : ¬ (dx : Int) < 9 := by omega
                have e9 : B2 = false := by rw [HB2.out, hLx]; simp [hd]
                subst e9
                clear HB2 HL hLx h1
                as_aux_lemma =>
                  go_wp2_with fail
                  go_meet
                  exact ⟨rfl, rfl⟩
            · have h1i : decide ((p : Int) = 11) = false := decide_eq_false (by omega)
              have h1j : ((p : Int) == 11) = false := by simp; omega
              have e9 : B2 = false := by rw [HB2.out]; simp [h1]
              subst e9
              clear HB2 HL hLx h1
              as_aux_lemma =>
                go_wp2_with fail
                go_meet
                exact ⟨rfl, rfl⟩
        case rest =>
        obtain ⟨rfl, hwc⟩ := hcut
        obtain rfl : wr = wc := hwc.symm
        cases B2 with
        | true =>
          have h9 : 1 ≤ n ∧ p = 11 ∧ L = true := by have := HB2.out; simpa [and_assoc] using this.symm
          obtain ⟨h1, rfl, hLt⟩ := h9
          obtain ⟨k, a, x, g, hk, hits, hka, rfl, x0, x1, x2, hix, hgw, hcp, hfx⟩ := si_last HS.out HN.out (by omega)
          subst hk
          obtain ⟨tx, vx, dx⟩ := x
          have hLx := HL.out a _ hits
          simp only at x0 x1 x2 hix hLx
          rw [hLt] at hLx
          have hLy : dx < 9 ∧ tx.length < 300 := by simpa using hLx.symm
          have lx := hix.len
          have f0 := hfx (k * 3)
          have f1 := hfx (k * 3 + 1)
          have f2 := hfx (k * 3 + 2)
          have hkj : k ≤ 1048576 := by omega
          have hwk : IntKind.i64.wrap (k : Int) = (k : Int) := by rw [IntKind.wrap_i64]; omega
          have hwd : IntKind.i64.wrap (1 + (dx : Int)) = 1 + (dx : Int) := by rw [IntKind.wrap_i64]; omega
          have hwn : IntKind.i64.wrap (-vx) = -vx := by rw [IntKind.wrap_i64]; have := hix.lo; have := hix.hi; omega
          have hki : (k : Int) < (k : Int) + 1 := by omega
          have b1 : ¬ 9223372036854775807 < 2 + tx.length := by omega
          have b2 : ¬ 9223372036854775807 < 4 + tx.length := by omega
          have HIT : Hid (It ([45, 32] ++ tx) (wrapV (-vx)) (1 + dx)) := it_neg hix hLy.1 hLy.2
          have HSET : Hid (SI (w.alloc (.cells #[.string ByteArray.empty, .int .i64 0, .int .i64 0] 35)) (.slice (some ⟨g, 0, none⟩) (k + 1) vc) (a ++ [([45, 32] ++ tx, wrapV (-vx), 1 + dx)]) (((wr.drew.setCell ⟨g, k * 3, none⟩ (.string (⟨#[45, 32]⟩ ++ ⟨tx.toArray⟩))).setCell ⟨g, k * 3 + 1, none⟩ (.int .i64 (wrapV (-vx)))).setCell ⟨g, k * 3 + 2, none⟩ (.int .i64 (1 + (dx : Int))))) := by
            have h0 := HS.out
            rw [hits] at h0
            have h1 := (h0.below (Below.refl _ _).drew).set (y := ([45, 32] ++ tx, wrapV (-vx), 1 + dx)) (by simp; omega) HIT.out
            rw [hka] at h1
            have e1 : (⟨([45, 32] ++ tx).toArray⟩ : ByteArray) = ⟨#[45, 32]⟩ ++ ⟨tx.toArray⟩ := by rw [← str_add]
            have e2 : ((1 + dx : Nat) : Int) = 1 + (dx : Int) := by omega
            simp only [e1, e2] at h1
            exact h1
          clear HB2 HL hLx hLt hLy hix hPa hPb hfx
          as_aux_lemma =>
            go_upto_region 18 with fail
            refine wp_region_still_tail 27 (by kernel_rfl) (by kernel_rfl) ?_
            simp only [List.take_succ_cons, List.take_zero, List.drop_succ_cons, List.drop_zero]
            iterate 17 still_step
            still_call (wrap_val _ _)
            repeat still_step
            refine wpStill_nil ?_
            go_wp2
            go_roundw
            case rel => exact ⟨_, j + 1, by go_num, by omega, by simp; omega, HSET.out⟩
            case measure => simp [intOf]; omega
        | false =>
          clear HB2
          go_upto_region 19 with fail
          go_cut [169] from 15 to 233 (fun s wx => s = .bool B3 ∧ wx = wr)
          case first =>
            by_cases h0 : n = 0
            · have h0i : ¬ (1 : Int) ≤ (n : Int) := by omega
              have e9 : B3 = false := by rw [HB3.out]; simp [h0]
              clear h0
              subst e9
              clear HB3
              as_aux_lemma =>
                go_wp2_with fail
                go_meet
                exact ⟨rfl, rfl⟩
            · obtain ⟨k, a, x, g, hk, hits, hka, rfl, x0, x1, x2, hix, hgw, hcp, hfx⟩ := si_last HS.out HN.out (by omega)
              subst hk
              obtain ⟨tx, vx, dx⟩ := x
              have hLx := HL.out a _ hits
              simp only at x0 x1 x2 hix hLx
              have lx := hix.len
              have dx9 := hix.d9
              have h0i : (1 : Int) ≤ (k : Int) + 1 := by omega
              by_cases h1 : p = 12
              · have h1i : decide ((p : Int) = 12) = true := decide_eq_true (by omega)
                have h1j : ((p : Int) == 12) = true := by simp; omega
                by_cases hd : dx < 9
                · have hdi : (dx : Int) < 9 := by omega
                  by_cases hle : tx.length < 300
                  · have hlei : (tx.length : Int) < 300 := by omega
                    have e9 : B3 = true := by rw [HB3.out, hLx]; simp [h1, hd, hle]
                    subst e9
                    clear HB3 HL hLx h1
                    as_aux_lemma =>
                      go_wp2_with fail
                      go_meet
                      exact ⟨rfl, rfl⟩
                  · have hlei : ¬ (tx.length : Int) < 300 := by omega
                    have e9 : B3 = false := by rw [HB3.out, hLx]; simp [hle]
                    subst e9
                    clear HB3 HL hLx h1
                    as_aux_lemma =>
                      go_wp2_with fail
                      go_meet
                      exact ⟨rfl, rfl⟩
                · have hdi : ¬ (dx : Int) < 9 := by omega
                  have e9 : B3 = false := by rw [HB3.out, hLx]; simp [hd]
                  subst e9
                  clear HB3 HL hLx h1
                  as_aux_lemma =>
                    go_wp2_with fail
                    go_meet
                    exact ⟨rfl, rfl⟩
              · have h1i : decide ((p : Int) = 12) = false := decide_eq_false (by omega)
                have h1j : ((p : Int) == 12) = false := by simp; omega
                have e9 : B3 = false := by rw [HB3.out]; simp [h1]
                subst e9
                clear HB3 HL hLx h1
                as_aux_lemma =>
                  go_wp2_with fail
                  go_meet
                  exact ⟨rfl, rfl⟩
          case rest =>
          obtain ⟨rfl, hwc⟩ := hcut
          obtain rfl : wr = wc := hwc.symm
          cases B3 with
          | true =>
            have h9 : 1 ≤ n ∧ p = 12 ∧ L = true := by have := HB3.out; simpa [and_assoc] using this.symm
            obtain ⟨h1, rfl, hLt⟩ := h9
            obtain ⟨k, a, x, g, hk, hits, hka, rfl, x0, x1, x2, hix, hgw, hcp, hfx⟩ := si_last HS.out HN.out (by omega)
            subst hk
            obtain ⟨tx, vx, dx⟩ := x
            have hLx := HL.out a _ hits
            simp only at x0 x1 x2 hix hLx
            rw [hLt] at hLx
            have hLy : dx < 9 ∧ tx.length < 300 := by simpa using hLx.symm
            have lx := hix.len
            have f0 := hfx (k * 3)
            have f1 := hfx (k * 3 + 1)
            have f2 := hfx (k * 3 + 2)
            have hkj : k ≤ 1048576 := by omega
            have hwk : IntKind.i64.wrap (k : Int) = (k : Int) := by rw [IntKind.wrap_i64]; omega
            have hwd : IntKind.i64.wrap (1 + (dx : Int)) = 1 + (dx : Int) := by rw [IntKind.wrap_i64]; omega
            have hwn : IntKind.i64.wrap (-vx) = -vx := by rw [IntKind.wrap_i64]; have := hix.lo; have := hix.hi; omega
            have hki : (k : Int) < (k : Int) + 1 := by omega
            have b1 : ¬ 9223372036854775807 < 2 + tx.length := by omega
            have b2 : ¬ 9223372036854775807 < 4 + tx.length := by omega
            have HIT : Hid (It ([110, 111, 116, 32] ++ tx) (truthV (vx == 0)) (1 + dx)) := it_not hix hLy.1 hLy.2
            have HSET : Hid (SI (w.alloc (.cells #[.string ByteArray.empty, .int .i64 0, .int .i64 0] 35)) (.slice (some ⟨g, 0, none⟩) (k + 1) vc) (a ++ [([110, 111, 116, 32] ++ tx, truthV (vx == 0), 1 + dx)]) (((wr.drew.setCell ⟨g, k * 3, none⟩ (.string (⟨#[110, 111, 116, 32]⟩ ++ ⟨tx.toArray⟩))).setCell ⟨g, k * 3 + 1, none⟩ (.int .i64 (truthV (vx == 0)))).setCell ⟨g, k * 3 + 2, none⟩ (.int .i64 (1 + (dx : Int))))) := by
              have h0 := HS.out
              rw [hits] at h0
              have h1 := (h0.below (Below.refl _ _).drew).set (y := ([110, 111, 116, 32] ++ tx, truthV (vx == 0), 1 + dx)) (by simp; omega) HIT.out
              rw [hka] at h1
              have e1 : (⟨([110, 111, 116, 32] ++ tx).toArray⟩ : ByteArray) = ⟨#[110, 111, 116, 32]⟩ ++ ⟨tx.toArray⟩ := by rw [← str_add]
              have e2 : ((1 + dx : Nat) : Int) = 1 + (dx : Int) := by omega
              simp only [e1, e2] at h1
              exact h1
            clear HB3 HL hLx hLt hLy hix hPa hPb hfx
            as_aux_lemma =>
              go_upto_region 20 with fail
              refine wp_region_still_tail 27 (by kernel_rfl) (by kernel_rfl) ?_
              simp only [List.take_succ_cons, List.take_zero, List.drop_succ_cons, List.drop_zero]
              iterate 17 still_step
              still_call (truth_any _ _)
              repeat still_step
              refine wpStill_nil ?_
              go_wp2
              go_roundw
              case rel => exact ⟨_, j + 1, by go_num, by omega, by simp; omega, HSET.out⟩
              case measure => simp [intOf]; omega
          | false =>
            clear HB3 HL
            by_cases hE : 16 ≤ p
            · have hEi : ¬ (p : Int) < 16 := by omega
              as_aux_lemma =>
                go_wp2_with (first
                  | (go_at_call 23; refine (hPb _).mono ?_; rintro e wp ⟨rfl, h9⟩; cases h9)
                  | (go_at_call 27; refine (digits_any r _ (by omega)).mono ?_; rintro e wd ⟨rfl, hbd⟩; have hSd := HS.out.below hbd)
                  | (at_builtin; (refine wpList_append_own2 rfl _ _ 85 rfl (w.alloc (.cells #[.string ByteArray.empty, .int .i64 0, .int .i64 0] 35)).heap.size 35 i0 _ 3 32 Tryz.underlying85 hi hz0 hz1 hz2 rfl (by decide) _ _ _ rfl (hSd.own.alloc _) ⟨wd.heap.size, 0, none⟩ 1 1 (itC (digL r, (r : Int), 1)) rfl rfl (cell_three_new _ _ _ _ _) (by intro u hu; simp [itC] at hu; rcases hu with rfl | rfl | rfl <;> rfl) (by unfold maxLen; have := HN.out; omega) (by have := HN.out; omega) (Nat.le_trans hSd.bel.size (by simp)) ?_)
                     intro v' w5 hown5 hg5 hn5
                     have HN5 : Hid (SI (w.alloc (.cells #[.string ByteArray.empty, .int .i64 0, .int .i64 0] 35)) v' (its ++ [(digL r, (r : Int), 1)]) w5) := (hSd.below ((Below.refl _ _).alloc (Nat.le_refl _) _)).grow (it_num (by omega)) hown5 hg5
                     obtain ⟨va3, vc3, rfl⟩ := owned_slice2 hown5))
                go_roundw
                case rel => exact ⟨_, j + 1, by go_num, by omega, by have := HN.out; simp; omega, HN5.out⟩
                case measure => simp [intOf]; omega
            · have hEi : (p : Int) < 16 := by omega
              as_aux_lemma =>
                go_wp2_with (first
                  | (go_at_call 23; refine (hPa _).mono ?_; rintro e wp ⟨rfl, h9⟩; cases h9)
                  | (go_at_call 27; refine (digits_any q _ (by omega)).mono ?_; rintro e wd ⟨rfl, hbd⟩; have hSd := HS.out.below hbd)
                  | (at_builtin; (refine wpList_append_own2 rfl _ _ 85 rfl (w.alloc (.cells #[.string ByteArray.empty, .int .i64 0, .int .i64 0] 35)).heap.size 35 i0 _ 3 32 Tryz.underlying85 hi hz0 hz1 hz2 rfl (by decide) _ _ _ rfl (hSd.own.alloc _) ⟨wd.heap.size, 0, none⟩ 1 1 (itC (digL q, (q : Int), 1)) rfl rfl (cell_three_new _ _ _ _ _) (by intro u hu; simp [itC] at hu; rcases hu with rfl | rfl | rfl <;> rfl) (by unfold maxLen; have := HN.out; omega) (by have := HN.out; omega) (Nat.le_trans hSd.bel.size (by simp)) ?_)
                     intro v' w5 hown5 hg5 hn5
                     have HN5 : Hid (SI (w.alloc (.cells #[.string ByteArray.empty, .int .i64 0, .int .i64 0] 35)) v' (its ++ [(digL q, (q : Int), 1)]) w5) := (hSd.below ((Below.refl _ _).alloc (Nat.le_refl _) _)).grow (it_num (by omega)) hown5 hg5
                     obtain ⟨va3, vc3, rfl⟩ := owned_slice2 hown5))
                go_roundw
                case rel => exact ⟨_, j + 1, by go_num, by omega, by have := HN.out; simp; omega, HN5.out⟩
                case measure => simp [intOf]; omega
    · have hji : ¬ (j : Int) < (zs.length : Int) := by omega
      by_cases h0 : its.length = 0
      · skip
        as_aux_lemma =>
          obtain ⟨va, vc, hva⟩ := owned_slice2 hS.own
          subst hva
          rw [h0]
          have hrb : wr.cell? ⟨w.heap.size, 0, none⟩ = some (.string ByteArray.empty) := kept_at hS.bel (by rw [World.cell?_alloc_new]; rfl)
          have hrb1 : wr.cell? ⟨w.heap.size, 1, none⟩ = some (.int .i64 0) := kept_at hS.bel (by rw [World.cell?_alloc_new]; rfl)
          have hrb2 : wr.cell? ⟨w.heap.size, 2, none⟩ = some (.int .i64 0) := kept_at hS.bel (by rw [World.cell?_alloc_new]; rfl)
          have hrf : ∀ o, wr.frozen? ⟨w.heap.size, o, none⟩ = false := fun o => by rw [hS.bel.frozen (p := ⟨w.heap.size, o, none⟩) (by simp)]; exact World.frozen?_alloc_new _ _ _ _
          have f0 := hrf 0
          have f1 := hrf 1
          have f2 := hrf 2
          have hsz := hS.bel.size
          have hbb := hS.bel
          clear hS hrf
          go_wp2
          refine bodyPost_ret (v := .agg #[.string ⟨#[48]⟩, .int .i64 0, .int .i64 1]) (by simp [results, Tryz.results18, go_sem, hrb, hrb1, hrb2]) rfl ?_
          go_light
          refine ⟨[48], 0, 1, it_num (n := 0) (by omega), rfl, ?_⟩
          exact below_set (below_set (below_set (HB1.out.trans (hbb.mono HB1.out.size)) (Nat.le_refl _)) (Nat.le_refl _)) (Nat.le_refl _)
      · skip
        as_aux_lemma =>
          obtain ⟨va, vc, hva⟩ := owned_slice2 hS.own
          subst hva
          obtain ⟨k, a, x, g, hk, rfl, hka, rfl, x0, x1, x2, hix, hgl, hcp, hfx⟩ := si_last hS rfl (by omega)
          rw [hk]
          have hrb : wr.cell? ⟨w.heap.size, 0, none⟩ = some (.string ByteArray.empty) := kept_at hS.bel (by rw [World.cell?_alloc_new]; rfl)
          have hrb1 : wr.cell? ⟨w.heap.size, 1, none⟩ = some (.int .i64 0) := kept_at hS.bel (by rw [World.cell?_alloc_new]; rfl)
          have hrb2 : wr.cell? ⟨w.heap.size, 2, none⟩ = some (.int .i64 0) := kept_at hS.bel (by rw [World.cell?_alloc_new]; rfl)
          have hrf : ∀ o, wr.frozen? ⟨w.heap.size, o, none⟩ = false := fun o => by rw [hS.bel.frozen (p := ⟨w.heap.size, o, none⟩) (by simp)]; exact World.frozen?_alloc_new _ _ _ _
          have f0 := hrf 0
          have f1 := hrf 1
          have f2 := hrf 2
          have hsz := hS.bel.size
          have hbb := hS.bel
          obtain ⟨tx, vx, dx⟩ := x
          simp only at x0 x1 x2 hix
          have HIX : Hid (It tx vx dx) := hix
          have hkj : k ≤ 1048576 := by omega
          clear hS hrf hix HS
          go_wp2
          refine bodyPost_ret (v := .agg #[.string ⟨tx.toArray⟩, .int .i64 vx, .int .i64 (dx : Nat)]) (by simp [results, Tryz.results18, go_sem, hrb, hrb1, hrb2]) rfl ?_
          go_light
          exact ⟨tx, vx, dx, HIX.out, rfl, below_set (below_set (below_set (HB1.out.trans (hbb.mono HB1.out.size)) (Nat.le_refl _)) (Nat.le_refl _)) (Nat.le_refl _)⟩

end Go.Proofs.YtklobognaldjpaaGreat
