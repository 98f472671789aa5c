/- The reference's walk: names. The reference's walk: what a name must be, how many arguments a call has, what a func's own name is. -/
import Derived.Test.YtklobognaldjpaaGreatCWk5
import Derived.Deep.QuietTactic
import Derived.BigQuiet
namespace Go.Proofs.YtklobognaldjpaaGreat
open Go.RowKit

theorem findBelow_lt {l : List Sy} {n : ByteArray} : ∀ {i k : Nat}, findBelow l n i = some k → k < i
  | 0, k, h => by simp [findBelow] at h
  | i + 1, k, h => by
    rw [findBelow] at h
    split at h
    · simp at h; omega
    · have := findBelow_lt h; omega

theorem findLast_lt {l : List Sy} {n : ByteArray} {k : Nat} (h : findLast l n = some k) : k < l.length := findBelow_lt h

theorem getD_some {l : List Sy} {k : Nat} (h : k < l.length) : l[k]? = some (l.getD k default) := by
  rw [List.getD_eq_getElem?_getD, List.getElem?_eq_getElem h]; rfl

/-- A row of what was declared, where there is one. -/
theorem SyAt.block {w : World} {v : Value} {l : List Sy} (h : SyAt w v l) (hl : 0 < l.length) : ∃ b cap, v = .slice (some ⟨b, 0, none⟩) l.length cap ∧ ∀ k, k < l.length →
    w.cell? ⟨b, k * 6, none⟩ = some (.string (l.getD k default).name) ∧ w.cell? ⟨b, k * 6 + 1, none⟩ = some (.int .i64 (l.getD k default).kind) ∧ w.cell? ⟨b, k * 6 + 3, none⟩ = some (.int .i64 (l.getD k default).args) := by
  rcases h with ⟨_, rfl⟩ | ⟨b, cap, rfl, hb, hc⟩
  · simp at hl
  · exact ⟨b, cap, rfl, fun k hk => hc k _ (getD_some hk)⟩

set_option maxRecDepth 100000 in
set_option maxHeartbeats 1000000 in
theorem find_any {w : World} {v : Value} {l : List Sy} (h : SyAt w v l) (hl : l.length ≤ 601) (n : ByteArray) :
    Calls Tryz.prog 152 #[v, .string n] w fun e w' => e = .returned (.int .i64 (insI (findLast l n))) ∧ w' = w := by
  by_cases h0 : 0 < l.length
  · obtain ⟨b, cap, rfl, hc⟩ := h.block h0
    clear h
    go_enter Tryz.func152, Tryz.ntmps152
    go_wp2
    go_loop [5] (fun i => ∃ k : Nat, k ≤ l.length ∧ i = .int .i64 ((k : Int) - 1) ∧ Hid (findBelow l n k = findLast l n)) (fun i => (intOf i + 1).toNat)
    case atStart => exact ⟨l.length, Nat.le_refl _, by go_num, rfl⟩
    case round =>
      obtain ⟨k, hk, rfl, HF⟩ := hrel
      cases k with
      | zero =>
        have HE : Hid (findLast l n = none) := by show _ = _; rw [← HF.out]; rfl
        clear HF
        go_wp2
        go_ret
        exact ⟨by rw [HE.out]; rfl, rfl⟩
      | succ k =>
        have ek : (((k + 1 : Nat) : Int) - 1) = k := by omega
        rw [ek]
        obtain ⟨c0, _, _⟩ := hc k (by omega)
        have hlt : (k : Int) < l.length := by omega
        clear hc
        cases he : ((l.getD k default).name.toList == n.toList) with
        | true =>
          have HE : Hid (findLast l n = some k) := by show _ = _; rw [← HF.out, findBelow, if_pos he]
          clear HF
          generalize l.getD k default = y at *
          go_wp2
          go_ret
          exact ⟨by rw [HE.out]; rfl, rfl⟩
        | false =>
          have HE : Hid (findBelow l n k = findLast l n) := by show _ = _; rw [← HF.out, findBelow, if_neg (by rw [he]; simp)]
          clear HF
          generalize l.getD k default = y at *
          go_wp2
          go_round
          case rel => exact ⟨k, by omega, by go_num, HE⟩
          case measure => simp [intOf]
  · have e : l = [] := List.eq_nil_of_length_eq_zero (by omega)
    subst e
    rcases h with ⟨rfl, _⟩ | ⟨b, cap, rfl, hb, hc⟩
    · go_enter Tryz.func152, Tryz.ntmps152
      go_wp2
      go_loop [5] (fun i => i = .int .i64 (-1)) (fun i => 0)
      case atStart => go_num
      case round =>
        subst hrel
        go_wp2
        go_ret
        exact ⟨rfl, rfl⟩
    · clear hc
      go_enter Tryz.func152, Tryz.ntmps152
      go_wp2
      go_loop [5] (fun i => i = .int .i64 (-1)) (fun i => 0)
      case atStart => go_num
      case round =>
        subst hrel
        go_wp2
        go_ret
        exact ⟨rfl, rfl⟩

/-- A callee that only reads, in the second of two regions that draw. -/
theorem quiet_two {P : Program} {f : FuncId} {args : Array Value} {w : World} {a n : Nat} {v : Value}
    (h : Calls P f args (w.drewN (a + n)) fun e w' => e = .returned v ∧ w' = w.drewN (a + n)) : Calls P f args (w.drewN (a + n)) fun e w'' => e = .returned v ∧ ∃ m, w'' = w.drewN (a + m) :=
  h.mono fun _ _ ⟨he, hm⟩ => ⟨he, n, hm⟩

theorem SyAt.drew {w : World} {v : Value} {l : List Sy} (h : SyAt w v l) (q : Nat) : SyAt (w.drewN q) v l := h.keep (Nat.le_refl _) (fun _ _ _ _ => rfl)

section
variable {wb tb cap : Nat} {T : List Tok} {n : Nm} {w : World} {s : PS}

theorem RW.drew {m : Option Nm} (h : RW wb tb cap T m w s) (q : Nat) : RW wb tb cap T m (w.drewN q) s :=
  ⟨h.toks, h.mode_, h.fault, h.place, h.dead, h.frz, h.tok, h.ne, h.tlt, h.size, fun n hn => (h.env n hn).keep (Nat.le_refl _) rfl rfl rfl (fun _ _ _ _ _ => rfl), h.ext⟩

set_option maxRecDepth 100000 in
set_option maxHeartbeats 1000000 in
theorem kind_any (h : RW wb tb cap T (some n) w s) (hg : Good T s) :
    Calls Tryz.prog 208 #[.pointer (some ⟨wb, 0, none⟩), .int .i64 s.next] w fun e w' => e = .returned (.tuple #[.int .i64 (n.E.kindIx (cur T s).text).1, .int .i64 (n.E.kindIx (cur T s).text).2]) ∧ ∃ q, w' = w.drewN q := by
  have hE := h.env n rfl
  have ht := h.toks
  have hsz := h.size
  have hg' : (s.next : Int) < T.length := by unfold Good at hg; omega
  obtain ⟨_, _, _, c3⟩ := h.curCells hg
  have hgc := hE.gcell
  have hhc := hE.hcell
  have hF1 := fun q => find_any (hE.h.drew (w := w) q) hE.hlen (cur T s).text
  have hF2 := fun q => find_any (hE.g.drew (w := w) q) hE.glen (cur T s).text
  have hl1 := hE.hlen
  have hl2 := hE.glen
  generalize (cur T s).text = t at *
  cases h1 : findLast n.E.here t with
  | some k =>
    have HE : Hid (n.E.kindIx t = (0, -1)) := by show _ = _; unfold Env.kindIx; rw [h1]
    have hk := findLast_lt h1
    obtain ⟨b, cp, hv, hc⟩ := hE.h.block (by omega)
    obtain ⟨_, c1, _⟩ := hc k hk
    rw [hE.vars _ (List.mem_of_getElem? (getD_some hk))] at c1
    rw [h1, hv] at hF1
    rw [hv] at hhc
    simp only [insI] at hF1
    have hki : (k : Int) < n.E.here.length := by omega
    clear hc hE h1 hF2 hgc
    go_enter Tryz.func208, Tryz.ntmps208
    go_wp2
    go_quiet (first | (go_at_call 152; exact Calls.quiet_of_same (hF1 _)))
    go_wp2
    go_ret2
    rw [HE.out]
    exact ⟨rfl, _, rfl⟩
  | none =>
    rw [h1] at hF1
    simp only [insI] at hF1
    cases h2 : findLast n.E.glob t with
    | none =>
      rw [h2] at hF2
      simp only [insI] at hF2
      have HE : Hid (n.E.kindIx t = (-1, -1)) := by show _ = _; unfold Env.kindIx; rw [h1, h2]
      clear hE h1 h2
      go_enter Tryz.func208, Tryz.ntmps208
      go_wp2
      go_quiet (first | (go_at_call 152; exact Calls.quiet_of_same (hF1 _)))
      go_wp2
      go_quiet (first | (go_at_call 152; exact quiet_two (hF2 _)))
      go_wp2
      go_ret2
      rw [HE.out]
      exact ⟨rfl, _, rfl⟩
    | some k =>
      have HE : Hid (n.E.kindIx t = (((n.E.glob.getD k default).kind : Int), (k : Int))) := by show _ = _; unfold Env.kindIx; rw [h1, h2]
      have hk := findLast_lt h2
      obtain ⟨b, cp, hv, hc⟩ := hE.g.block (by omega)
      obtain ⟨_, c1, _⟩ := hc k hk
      rw [h2, hv] at hF2
      rw [hv] at hgc
      simp only [insI] at hF2
      have hki : (k : Int) < n.E.glob.length := by omega
      generalize ((n.E.glob.getD k default).kind : Int) = kd at *
      clear hc hE h1 h2
      go_enter Tryz.func208, Tryz.ntmps208
      go_wp2
      go_quiet (first | (go_at_call 152; exact Calls.quiet_of_same (hF1 _)))
      go_wp2
      go_quiet (first | (go_at_call 152; exact quiet_two (hF2 _)))
      go_wp2
      go_ret2
      rw [HE.out]
      exact ⟨rfl, _, rfl⟩

end

end Go.Proofs.YtklobognaldjpaaGreat

namespace Go.Proofs.YtklobognaldjpaaGreat
open Go.RowKit

section
variable {wb tb cap : Nat} {T : List Tok} {m : Option Nm} {n : Nm} {w : World} {s : PS}

theorem bsl (l : List UInt8) : (bs l).toList = l := by rw [Lib.toList_data]; rfl

theorem mdI_zero : (mdI (none : Option Nm) == 0) = true := rfl

set_option maxRecDepth 100000 in
set_option maxHeartbeats 1000000 in
theorem wants_dead (h : RW wb tb cap T m w s) (hc : s.code ≠ 0) (i kind : Int) :
    Calls Tryz.prog 194 #[.pointer (some ⟨wb, 0, none⟩), .int .i64 i, .int .i64 kind] w fun e w' => e = .returned (.int .i64 (-1)) ∧ w' = w := by
  have hmo := h.mode_
  have hfa := h.fault
  have hz' : ((s.code : Int) != 0) = true := by simp; omega
  cases m with
  | none =>
    simp only [mdI] at hmo
    go_enter Tryz.func194, Tryz.ntmps194
    go_wp2
    go_ret
    exact ⟨rfl, rfl⟩
  | some n =>
    simp only [mdI] at hmo
    go_enter Tryz.func194, Tryz.ntmps194
    go_wp2
    go_ret
    exact ⟨rfl, rfl⟩

/-- What a look at the name does. -/
def RWants (wb tb cap : Nat) (T : List Tok) (m : Option Nm) (s : PS) (kind : Nat) (w : World) (e : Ending) (w' : World) : Prop :=
  ∃ k : Int, e = .returned (.int .i64 k) ∧ (∀ nx, RW wb tb cap T m w' (wantsE T (mdE m) s kind { s with next := nx })) ∧ Par wb w w' ∧ ∀ n, m = some n → k = (n.E.kindIx (cur T s).text).2

set_option maxRecDepth 100000 in
set_option maxHeartbeats 1000000 in
theorem wants_any (h : RW wb tb cap T m w s) (hg : Good T s) (hc : s.code = 0) (kind : Nat) :
    Calls Tryz.prog 194 #[.pointer (some ⟨wb, 0, none⟩), .int .i64 s.next, .int .i64 kind] w (RWants wb tb cap T m s kind w) := by
  have hmo := h.mode_
  have hfa := h.fault
  rw [hc] at hfa
  cases m with
  | none =>
    simp only [mdI] at hmo
    go_enter Tryz.func194, Tryz.ntmps194
    go_wp2
    go_ret
    exact ⟨_, rfl, fun nx => h.at nx, Par.refl _ _, fun n hn => by cases hn⟩
  | some n =>
    simp only [mdI] at hmo
    have hK := kind_any h hg
    have HK : Hid (∀ k, k = (n.E.kindIx (cur T s).text).1 → ∀ nx, wantsE T (mdE (some n)) s kind { s with next := nx } = if k = (kind : Int) then { s with next := nx } else stop T 6 (cur T s).pos) := by
      show ∀ k, _
      rintro k rfl nx
      rfl
    generalize hk : (n.E.kindIx (cur T s).text).1 = kd at *
    generalize hx : (n.E.kindIx (cur T s).text).2 = ix at *
    have HX : Hid (∀ n', some n = some n' → ix = (n'.E.kindIx (cur T s).text).2) := by
      show ∀ n', _
      intro n' hn; cases hn; exact hx.symm
    have hW := fun q => wrong_any (h.drew q) hg 6 s.next (fun _ => rfl)
    clear hx
    by_cases he : kd = (kind : Int)
    · subst he
      clear hW
      go_enter Tryz.func194, Tryz.ntmps194
      go_wp2_with (go_at_call 208; refine hK.mono ?_; rintro e w1 ⟨rfl, q, hq⟩; obtain rfl := hq)
      go_ret
      exact ⟨_, rfl, fun nx => by rw [HK.out _ rfl, if_pos rfl]; exact (h.at nx).drew q, (Par.refl _ _).drewN q, HX.out⟩
    · have he' : (kd != (kind : Int)) = true := by simpa using he
      have HN : Hid (¬ kd = (kind : Int)) := he
      clear he
      go_enter Tryz.func194, Tryz.ntmps194
      go_wp2_with (first
        | (go_at_call 208; refine hK.mono ?_; rintro e w1 ⟨rfl, q, hq⟩; obtain rfl := hq)
        | (go_at_call 98; refine (hW _).mono ?_; rintro e w2 ⟨rfl, hP2, hk2⟩))
      go_ret
      refine ⟨_, rfl, fun nx => ?_, ((Par.refl _ _).drewN q).trans hk2, HX.out⟩
      rw [HK.out _ rfl, if_neg HN.out]
      have e : fails T 6 s = stop T 6 (cur T s).pos := by simp [fails, stop, hc]
      rw [← e]; exact hP2

set_option maxRecDepth 100000 in
set_option maxHeartbeats 1000000 in
theorem given_dead (h : RW wb tb cap T m w s) (hc : s.code ≠ 0) (i : Int) :
    Calls Tryz.prog 209 #[.pointer (some ⟨wb, 0, none⟩), .int .i64 i] w fun e w' => e = .returned (.int .i64 0) ∧ w' = w := by
  have hmo := h.mode_
  have hfa := h.fault
  have hz' : ((s.code : Int) != 0) = true := by simp; omega
  cases m with
  | none =>
    simp only [mdI] at hmo
    go_enter Tryz.func209, Tryz.ntmps209
    go_wp2
    go_ret
    exact ⟨rfl, rfl⟩
  | some n =>
    simp only [mdI] at hmo
    go_enter Tryz.func209, Tryz.ntmps209
    go_wp2
    go_ret
    exact ⟨rfl, rfl⟩

set_option maxRecDepth 100000 in
set_option maxHeartbeats 1000000 in
theorem given_none (h : RW wb tb cap T none w s) (i : Int) :
    Calls Tryz.prog 209 #[.pointer (some ⟨wb, 0, none⟩), .int .i64 i] w fun e w' => e = .returned (.int .i64 0) ∧ w' = w := by
  have hmo := h.mode_
  simp only [mdI] at hmo
  go_enter Tryz.func209, Tryz.ntmps209
  go_wp2
  go_ret
  exact ⟨rfl, rfl⟩

theorem tokAt (h : RW wb tb cap T m w s) {k : Nat} (hk : k < T.length) : w.cell? ⟨tb, k * 4 + 3, none⟩ = some (.string (T.getD k default).text) :=
  ((h.at k).curCells (s := { s with next := k }) hk).2.2.2

theorem drop_cons {k : Nat} (hk : k < T.length) : T.drop k = T.getD k default :: T.drop (k + 1) := by
  rw [List.drop_eq_getElem_cons hk, List.getD_eq_getElem?_getD, List.getElem?_eq_getElem hk]; rfl

set_option maxRecDepth 1000000 in
set_option maxHeartbeats 2000000 in
theorem given_any (h : RW wb tb cap T (some n) w s) (hc : s.code = 0) (hg2 : s.next + 2 < T.length) :
    Calls Tryz.prog 209 #[.pointer (some ⟨wb, 0, none⟩), .int .i64 s.next] w fun e w' => e = .returned (.int .i64 (givenT T s : Nat)) ∧ w' = w := by
  have hmo := h.mode_
  have hfa := h.fault
  have ht := h.toks
  have hsz := h.size
  rw [hc] at hfa
  simp only [mdI] at hmo
  have hTk := fun k (hk : k < T.length) => tokAt h hk
  have c3 := hTk (s.next + 2) hg2
  have hgi : (s.next : Int) + 2 < T.length := by omega
  cases h41 : sees T (bs [41]) (adv (adv s)) with
  | true =>
    have HE : Hid (givenT T s = 0) := by show _ = _; unfold givenT; rw [if_pos h41]
    have hx : ((T.getD (s.next + 2) default).text.toList == ([41] : List UInt8)) = true := by unfold sees at h41; rw [bsl] at h41; exact h41
    clear h41 hTk
    generalize (T.getD (s.next + 2) default) = t at *
    go_enter Tryz.func209, Tryz.ntmps209
    go_wp2
    go_ret
    exact ⟨by rw [HE.out]; rfl, rfl⟩
  | false =>
    have HE : Hid (givenT T s = givenGo (T.drop (s.next + 2)) 0 1) := by show _ = _; unfold givenT; rw [if_neg (by rw [h41]; simp)]
    have hx : ((T.getD (s.next + 2) default).text.toList == ([41] : List UInt8)) = false := by unfold sees at h41; rw [bsl] at h41; exact h41
    clear h41
    have HTk : Hid (∀ k, k < T.length → w.cell? ⟨tb, k * 4 + 3, none⟩ = some (.string (T.getD k default).text)) := hTk
    clear hTk
    generalize (T.getD (s.next + 2) default) = t0 at c3 hx
    go_enter Tryz.func209, Tryz.ntmps209
    go_wp2
    go_loop [5, 6, 7] (fun a o k => ∃ (aa oo kk : Nat), a = .int .i64 aa ∧ o = .int .i64 oo ∧ k = .int .i64 kk ∧ kk ≤ T.length ∧ aa ≤ kk ∧ oo ≤ kk ∧ Hid (givenGo (T.drop kk) oo aa = givenT T s)) (fun _ _ k => T.length - (intOf k).toNat)
    case atStart => exact ⟨1, 0, s.next + 2, rfl, rfl, by go_num, by omega, by omega, by omega, HE.out.symm⟩
    case round =>
      obtain ⟨aa, oo, kk, rfl, rfl, rfl, hkk, haa, hoo, HG⟩ := hrel
      by_cases hlt : kk < T.length
      · have ck := HTk.out kk hlt
        have hd := drop_cons hlt
        have hlti : (kk : Int) < T.length := by omega
        rw [hd] at HG
        clear HTk hd c3 hx
        generalize (T.getD kk default) = t at *
        cases h40 : (t.text.toList == ([40] : List UInt8)) with
        | true =>
          have HS : Hid (givenGo (T.drop (kk + 1)) (oo + 1) aa = givenT T s) := by
            show _ = _
            rw [← HG.out, givenGo, if_pos (by unfold isOpen; simp only [bsl]; simp [h40])]
          clear HG
          go_wp2
          go_round
          case rel => exact ⟨aa, oo + 1, kk + 1, by go_num, by go_num, by go_num, by omega, by omega, by omega, HS⟩
          case measure => simp [intOf]; omega
        | false =>
          cases h91 : (t.text.toList == ([91] : List UInt8)) with
          | true =>
            have HS : Hid (givenGo (T.drop (kk + 1)) (oo + 1) aa = givenT T s) := by
              show _ = _
              rw [← HG.out, givenGo, if_pos (by unfold isOpen; simp only [bsl]; simp [h91])]
            clear HG
            go_wp2
            go_round
            case rel => exact ⟨aa, oo + 1, kk + 1, by go_num, by go_num, by go_num, by omega, by omega, by omega, HS⟩
            case measure => simp [intOf]; omega
          | false =>
            have hno : ¬ isOpen t = true := by unfold isOpen; simp only [bsl]; simp [h40, h91]
            have hG2 := HG.out
            rw [givenGo, if_neg hno] at hG2
            clear HG hno
            have close : isClose t = true → (oo = 0 → givenT T s = aa) ∧ (oo ≠ 0 → givenGo (T.drop (kk + 1)) (oo - 1) aa = givenT T s) := by
              intro hcl
              rw [if_pos hcl] at hG2
              exact ⟨fun h0 => by rw [if_pos h0] at hG2; exact hG2.symm, fun h0 => by rw [if_neg h0] at hG2; exact hG2⟩
            have other : isClose t = false → (isComma t = true → oo = 0 → givenGo (T.drop (kk + 1)) oo (aa + 1) = givenT T s) ∧ (isComma t = false ∨ oo ≠ 0 → givenGo (T.drop (kk + 1)) oo aa = givenT T s) := by
              intro hcl
              rw [if_neg (by rw [hcl]; simp)] at hG2
              refine ⟨fun h1 h0 => ?_, fun h1 => ?_⟩
              · rw [if_pos (by simp [h1, h0])] at hG2; exact hG2
              · rw [if_neg (by rcases h1 with h1 | h1 <;> simp [h1])] at hG2; exact hG2
            have HC := close
            have HO := other
            clear hG2 close other
            cases h41 : (t.text.toList == ([41] : List UInt8)) with
            | true =>
              have hcl : isClose t = true := by unfold isClose; simp only [bsl]; simp [h41]
              have hC2 := HC hcl
              by_cases h0 : oo = 0
              · subst h0
                have HE2 : Hid (givenT T s = aa) := hC2.1 rfl
                clear hC2 HC HO hcl
                go_wp2
                go_ret
                exact ⟨by rw [HE2.out]; rfl, rfl⟩
              · have HS : Hid (givenGo (T.drop (kk + 1)) (oo - 1) aa = givenT T s) := hC2.2 h0
                have hz : ((oo : Int) == 0) = false := by simp; omega
                clear hC2 HC HO hcl
                go_wp2
                go_round
                case rel => exact ⟨aa, oo - 1, kk + 1, by go_num, by go_num, by go_num, by omega, by omega, by omega, HS⟩
                case measure => simp [intOf]; omega
            | false =>
              cases h93 : (t.text.toList == ([93] : List UInt8)) with
              | true =>
                have hcl : isClose t = true := by unfold isClose; simp only [bsl]; simp [h93]
                have hC2 := HC hcl
                by_cases h0 : oo = 0
                · subst h0
                  have HE2 : Hid (givenT T s = aa) := hC2.1 rfl
                  clear hC2 HC HO hcl
                  go_wp2
                  go_ret
                  exact ⟨by rw [HE2.out]; rfl, rfl⟩
                · have HS : Hid (givenGo (T.drop (kk + 1)) (oo - 1) aa = givenT T s) := hC2.2 h0
                  have hz : ((oo : Int) == 0) = false := by simp; omega
                  clear hC2 HC HO hcl
                  go_wp2
                  go_round
                  case rel => exact ⟨aa, oo - 1, kk + 1, by go_num, by go_num, by go_num, by omega, by omega, by omega, HS⟩
                  case measure => simp [intOf]; omega
              | false =>
                have hcl : isClose t = false := by unfold isClose; simp only [bsl]; simp [h41, h93]
                have hO2 := HO hcl
                clear HC HO hcl
                cases h44 : (t.text.toList == ([44] : List UInt8)) with
                | true =>
                  have hco : isComma t = true := by unfold isComma; rw [bsl]; exact h44
                  by_cases h0 : oo = 0
                  · subst h0
                    have HS : Hid (givenGo (T.drop (kk + 1)) 0 (aa + 1) = givenT T s) := hO2.1 hco rfl
                    clear hO2 hco
                    go_wp2
                    go_round
                    case rel => exact ⟨aa + 1, 0, kk + 1, by go_num, by go_num, by go_num, by omega, by omega, by omega, HS⟩
                    case measure => simp [intOf]; omega
                  · have HS : Hid (givenGo (T.drop (kk + 1)) oo aa = givenT T s) := hO2.2 (.inr h0)
                    have hz : ((oo : Int) == 0) = false := by simp; omega
                    clear hO2 hco
                    go_wp2
                    go_round
                    case rel => exact ⟨aa, oo, kk + 1, by go_num, by go_num, by go_num, by omega, by omega, by omega, HS⟩
                    case measure => simp [intOf]; omega
                | false =>
                  have HS : Hid (givenGo (T.drop (kk + 1)) oo aa = givenT T s) := hO2.2 (.inl (by unfold isComma; rw [bsl]; exact h44))
                  clear hO2
                  go_wp2
                  go_round
                  case rel => exact ⟨aa, oo, kk + 1, by go_num, by go_num, by go_num, by omega, by omega, by omega, HS⟩
                  case measure => simp [intOf]; omega
      · have HE2 : Hid (givenT T s = aa) := by show _ = _; rw [← HG.out, List.drop_of_length_le (by omega)]; rfl
        clear HG HTk c3 hx
        go_wp2
        go_ret
        exact ⟨by rw [HE2.out]; rfl, rfl⟩

set_option maxRecDepth 100000 in
set_option maxHeartbeats 1000000 in
theorem result_none (h : RW wb tb cap T none w s) (i : Int) :
    Calls Tryz.prog 193 #[.pointer (some ⟨wb, 0, none⟩), .int .i64 i] w fun e w' => e = .returned (.bool false) ∧ w' = w := by
  have hmo := h.mode_
  simp only [mdI] at hmo
  go_enter Tryz.func193, Tryz.ntmps193
  go_wp2
  go_ret
  exact ⟨rfl, rfl⟩

set_option maxRecDepth 100000 in
set_option maxHeartbeats 2000000 in
theorem result_any (h : RW wb tb cap T (some n) w s) (hg : Good T s) :
    Calls Tryz.prog 193 #[.pointer (some ⟨wb, 0, none⟩), .int .i64 s.next] w fun e w' => e = .returned (.bool (n.E.isRes (cur T s).text)) ∧ ∃ q, w' = w.drewN q := by
  have hE := h.env n rfl
  have hmo := h.mode_
  have ht := h.toks
  have hsz := h.size
  have hg' : (s.next : Int) < T.length := by unfold Good at hg; omega
  obtain ⟨_, _, _, c3⟩ := h.curCells hg
  have hgc := hE.gcell
  have hhc := hE.hcell
  have hin := hE.ins
  have hl2 := hE.glen
  have hF1 := fun q => find_any (hE.h.drew (w := w) q) hE.hlen (cur T s).text
  simp only [mdI] at hmo
  generalize (cur T s).text = t at *
  cases hi : n.E.inside with
  | none =>
    have HR : Hid (n.E.isRes t = false) := by show _ = _; unfold Env.isRes; rw [hi]
    rw [hi] at hin
    simp only [insI] at hin
    clear hE hi hF1
    go_enter Tryz.func193, Tryz.ntmps193
    go_wp2
    go_ret
    exact ⟨by rw [HR.out]; rfl, 0, rfl⟩
  | some k =>
    have hk := hE.insOk k hi
    rw [hi] at hin
    simp only [insI] at hin
    obtain ⟨b, cp, hv, hc⟩ := hE.g.block (by omega)
    obtain ⟨d0, d1, _⟩ := hc k hk
    rw [hv] at hgc
    have hki : (k : Int) < n.E.glob.length := by omega
    have HR : Hid (n.E.isRes t = (decide ((n.E.glob.getD k default).kind = 3) && ((n.E.glob.getD k default).name.toList == t.toList) && (findLast n.E.here t).isNone)) := by show _ = _; unfold Env.isRes; rw [hi]
    generalize n.E.glob.getD k default = y at *
    clear hc hE hi
    cases h3 : ((y.kind : Int) == 3) with
    | false =>
      have HR2 : Hid (n.E.isRes t = false) := by show _ = _; rw [HR.out, decide_eq_false (by simp at h3; omega)]; rfl
      clear HR hF1
      go_enter Tryz.func193, Tryz.ntmps193
      go_wp2
      go_quiet (fail)
      go_wp2
      go_ret
      exact ⟨by rw [HR2.out]; rfl, _, rfl⟩
    | true =>
      have e3 : decide (y.kind = 3) = true := by simp at h3; simp; omega
      rw [e3] at HR
      cases hn : (y.name.toList == t.toList) with
      | false =>
        have HR2 : Hid (n.E.isRes t = false) := by show _ = _; rw [HR.out, hn]; rfl
        clear HR hF1
        go_enter Tryz.func193, Tryz.ntmps193
        go_wp2
        go_quiet (fail)
        go_wp2
        go_ret
        exact ⟨by rw [HR2.out]; rfl, _, rfl⟩
      | true =>
        rw [hn] at HR
        cases hf : findLast n.E.here t with
        | none =>
          have HR2 : Hid (n.E.isRes t = true) := by show _ = _; rw [HR.out, hf]; rfl
          rw [hf] at hF1
          simp only [insI] at hF1
          clear HR hf e3
          go_enter Tryz.func193, Tryz.ntmps193
          go_wp2
          go_quiet (first | (go_at_call 152; exact Calls.quiet_of_same (hF1 _)))
          go_wp2
          go_ret
          exact ⟨by rw [HR2.out]; rfl, _, rfl⟩
        | some j =>
          have HR2 : Hid (n.E.isRes t = false) := by show _ = _; rw [HR.out, hf]; rfl
          rw [hf] at hF1
          simp only [insI] at hF1
          have hj : ¬ ((j : Int) < 0) := by omega
          clear HR hf e3
          go_enter Tryz.func193, Tryz.ntmps193
          go_wp2
          go_quiet (first | (go_at_call 152; exact Calls.quiet_of_same (hF1 _)))
          go_wp2
          go_ret
          exact ⟨by rw [HR2.out]; rfl, _, rfl⟩

end

end Go.Proofs.YtklobognaldjpaaGreat
