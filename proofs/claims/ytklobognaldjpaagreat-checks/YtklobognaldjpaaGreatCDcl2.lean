/- The reference's walk: what is declared, in memory. The reference's walk: a name is declared. -/
import Derived.Test.YtklobognaldjpaaGreatCWk7
import Derived.Test.YtklobognaldjpaaGreatCNam4
import Derived.Test.YtklobognaldjpaaGreatCParse10
import Derived.Deep.RegionHeld3
import Derived.Deep.AppendLies
namespace Go.Proofs.YtklobognaldjpaaGreat
open Go.RowKit

theorem Tryz.infoCell : (Tryz.prog.info? 207).map (fun i => (i.zero, i.size, i.bytes)) = some (some (.agg #[.string ⟨#[]⟩, .int .i64 0, .slice none 0 0, .int .i64 0, .slice none 0 0, .int .i64 0]), 6, 88) := by kernel_rfl

/-- What was declared is the call's own. -/
structure OwnE (base : Nat) (w : World) (n : Nm) : Prop where
  g : ∃ xs, w.ownsRow base 207 6 n.gv n.E.glob.length xs
  h : ∃ xs, w.ownsRow base 207 6 n.hv n.E.here.length xs
  apart : ∀ b, n.gv.ownBlock = some b → n.hv.ownBlock ≠ some b
  last : n.E.fresh = true → ∀ gb, n.gv.ownBlock = some gb → w.cell? ⟨gb, (n.E.glob.length - 1) * 6 + 4, none⟩ = some (.slice none 0 0)

/-- The walk on its way through what is declared; it began in w0. -/
structure RD (wb tb cap : Nat) (T : List Tok) (w0 : World) (m : Option Nm) (w : World) (s : PS) : Prop where
  rw : RW wb tb cap T m w s
  par : Par wb w0 w
  own : ∀ n, m = some n → OwnE w0.heap.size w n
  lt : wb < w0.heap.size
  tlt : tb < w0.heap.size

section
variable {wb tb cap : Nat} {T : List Tok} {m : Option Nm} {n : Nm} {w w0 w' : World} {s r : PS}

theorem RD.step (h : RD wb tb cap T w0 m w s) (hr : RW wb tb cap T m w' r) (hk : Par wb w w') : RD wb tb cap T w0 m w' r :=
  ⟨hr, h.par.trans hk, fun n hn => by
    have ho := h.own n hn
    obtain ⟨xs, hx⟩ := ho.g
    obtain ⟨ys, hy⟩ := ho.h
    exact ⟨⟨xs, owns_par hx hk h.lt⟩, ⟨ys, owns_par hy hk h.lt⟩, ho.apart, fun hf gb hgb => by
      have h1 := hx.lt gb hgb
      have h2 := h.lt
      rw [hk.cell (p := ⟨gb, (n.E.glob.length - 1) * 6 + 4, none⟩) h1.2 (by show gb ≠ wb; omega)]
      exact ho.last hf gb hgb⟩, h.lt, h.tlt⟩

theorem RD.at (h : RD wb tb cap T w0 m w s) (nx : Nat) : RD wb tb cap T w0 m w { s with next := nx } := ⟨h.rw.at nx, h.par, h.own, h.lt, h.tlt⟩

theorem RD.below (h : RD wb tb cap T w0 m w s) (hb : Below w.heap.size w w') : RD wb tb cap T w0 m w' s := h.step (h.rw.below hb) (Par.of_below hb)

theorem SyAt.grow {w1 : World} {v : Value} {l : List Sy} {xs : List Value} {base g cap : Nat} (h : SyAt w v l) (ho : w.ownsRow base 207 6 v l.length xs) (y : Sy) (c2 c4 c5 : Value)
    (ho1 : w1.ownsRow base 207 6 (.slice (some ⟨g, 0, none⟩) (l.length + 1) cap) (l.length + 1) (xs ++ [.string y.name, .int .i64 y.kind, c2, .int .i64 y.args, c4, c5])) :
    SyAt w1 (.slice (some ⟨g, 0, none⟩) (l.length + 1) cap) (l ++ [y]) := by
  have hxl : xs.length = l.length * 6 := ho.1
  refine .inr ⟨g, cap, by simp, (ho1.lt g rfl).2, fun j z hj => ?_⟩
  have hc := fun k (hk : k < (l.length + 1) * 6) => ho1.cellAt k hk
  by_cases hlt : j < l.length
  · rw [List.getElem?_append_left hlt] at hj
    have hold : ∀ k, k < l.length * 6 → (xs ++ [.string y.name, .int .i64 y.kind, c2, .int .i64 y.args, c4, c5])[k]? = xs[k]? := fun k hk => List.getElem?_append_left (by omega)
    rcases h with ⟨rfl, rfl⟩ | ⟨b, cp, rfl, hb, hcells⟩
    · simp at hlt
    · obtain ⟨a0, a1, a2⟩ := hcells j z hj
      have ha := fun k (hk : k < l.length * 6) => ho.cellAt k hk
      refine ⟨?_, ?_, ?_⟩
      · rw [hc _ (by omega), hold _ (by omega), ← ha _ (by omega)]; exact a0
      · rw [hc _ (by omega), hold _ (by omega), ← ha _ (by omega)]; exact a1
      · rw [hc _ (by omega), hold _ (by omega), ← ha _ (by omega)]; exact a2
  · rw [List.getElem?_append_right (by omega)] at hj
    have hjl : j = l.length := by
      cases hk : j - l.length with
      | zero => omega
      | succ q => rw [hk] at hj; simp at hj
    subst hjl
    simp at hj
    subst hj
    have hnew : ∀ k, k < 6 → (xs ++ [.string y.name, .int .i64 y.kind, c2, .int .i64 y.args, c4, c5])[l.length * 6 + k]? = [.string y.name, .int .i64 y.kind, c2, .int .i64 y.args, c4, c5][k]? := fun k hk => by
      rw [List.getElem?_append_right (by omega)]; congr 1; omega
    refine ⟨?_, ?_, ?_⟩
    · rw [hc _ (by omega)]; exact hnew 0 (by omega)
    · rw [hc _ (by omega)]; exact hnew 1 (by omega)
    · rw [hc _ (by omega)]; exact hnew 3 (by omega)

end

end Go.Proofs.YtklobognaldjpaaGreat

namespace Go.Proofs.YtklobognaldjpaaGreat
open Go.RowKit

section
variable {wb tb cap : Nat} {T : List Tok} {m : Option Nm} {n : Nm} {w w0 : World} {s s0 : PS}

/-- What was declared, as a value. -/
def cellV (nm : ByteArray) (kind : Nat) (va : Option Addr) (vn vc args : Nat) : Value := .agg #[.string nm, .int .i64 kind, .slice va vn vc, .int .i64 args, .slice none 0 0, .int .i64 0]

theorem below_new (w : World) (o : Obj) : Below w.heap.size w (w.alloc o) := (Below.refl _ _).alloc (Nat.le_refl _) _

set_option maxRecDepth 100000 in
set_option maxHeartbeats 1000000 in
theorem declare_none (h : RW wb tb cap T none w s) (i : Int) (here : Bool) (nm : ByteArray) (kind : Nat) (va : Option Addr) (vn vc args : Nat) :
    Calls Tryz.prog 125 #[.pointer (some ⟨wb, 0, none⟩), .int .i64 i, .bool here, cellV nm kind va vn vc args] w fun e w' => e = .returned (.tuple #[]) ∧ Below w.heap.size w w' := by
  have hmo := h.mode_
  have hlt := h.lt
  have htl := h.tlt
  simp only [mdI] at hmo
  unfold cellV
  go_enter Tryz.func125, Tryz.ntmps125
  go_wp2
  (try simp only [Exit.inBlock, Exit.then])
  refine bodyPost_ret (results_none rfl _ _ _) rfl ?_
  exact ⟨rfl, (Below.refl _ _).alloc (Nat.le_refl _) _⟩

set_option maxRecDepth 100000 in
set_option maxHeartbeats 1000000 in
theorem declare_dead (h : RW wb tb cap T (some n) w s) (hc : s.code ≠ 0) (i : Int) (here : Bool) (nm : ByteArray) (kind : Nat) (va : Option Addr) (vn vc args : Nat) :
    Calls Tryz.prog 125 #[.pointer (some ⟨wb, 0, none⟩), .int .i64 i, .bool here, cellV nm kind va vn vc args] w fun e w' => e = .returned (.tuple #[]) ∧ Below w.heap.size w w' := by
  have hmo := h.mode_
  have hlt := h.lt
  have htl := h.tlt
  have hfa := h.fault
  have hz' : ((s.code : Int) != 0) = true := by simp; omega
  simp only [mdI] at hmo
  unfold cellV
  go_enter Tryz.func125, Tryz.ntmps125
  go_wp2
  (try simp only [Exit.inBlock, Exit.then])
  refine bodyPost_ret (results_none rfl _ _ _) rfl ?_
  exact ⟨rfl, (Below.refl _ _).alloc (Nat.le_refl _) _⟩

set_option maxRecDepth 100000 in
set_option maxHeartbeats 1000000 in
theorem declare_found (h : RW wb tb cap T (some n) w s) (hc : s.code = 0) (hg0 : Good T s0) (here : Bool) (nm : ByteArray) (kind : Nat) (va : Option Addr) (vn vc args : Nat)
    (hf : (findLast (n.E.row here) (cur T s0).text).isSome = true) :
    Calls Tryz.prog 125 #[.pointer (some ⟨wb, 0, none⟩), .int .i64 s0.next, .bool here, cellV nm kind va vn vc args] w fun e w' => e = .returned (.tuple #[]) ∧ RW wb tb cap T (some n) w' (stop T 6 (cur T s0).pos) ∧ Par wb w w' := by
  have hE := h.env n rfl
  have hmo := h.mode_
  have hlt := h.lt
  have htl := h.tlt
  have hfa := h.fault
  have ht := h.toks
  have hsz := h.size
  have hgc := hE.gcell
  have hhc := hE.hcell
  have hg0' : (s0.next : Int) < T.length := by unfold Good at hg0; omega
  rw [hc] at hfa
  simp only [mdI] at hmo
  have c3 := tokAt h hg0
  have hW := fun W (hb : Below w.heap.size w W) => wrong_any ((h.at s0.next).below hb) (s := { s with next := s0.next }) hg0 6 s0.next (fun _ => rfl)
  have e6 : fails T 6 { s with next := s0.next } = stop T 6 (cur T s0).pos := by simp [fails, stop, hc, cur]
  rw [e6] at hW
  clear e6
  have htx : (T.getD s0.next default).text = (cur T s0).text := rfl
  rw [htx] at c3
  clear htx
  generalize (cur T s0).text = t at *
  generalize stop T 6 (cur T s0).pos = s6 at *
  unfold cellV
  cases here with
  | true =>
    obtain ⟨k, hk⟩ := Option.isSome_iff_exists.1 hf
    have hF := fun W (hb : Below w.heap.size w W) => find_any ((h.below hb).env n rfl).h hE.hlen t
    have hkl := findLast_lt hk
    have hkl2 : k < n.E.here.length := hkl
    have hl := hE.hlen
    rw [show findLast n.E.here t = some k from hk] at hF
    simp only [insI] at hF
    clear hf hk hE
    go_enter Tryz.func125, Tryz.ntmps125
    go_wp2_with (first
      | (go_at_call 152; refine (hF _ (below_new _ _)).mono ?_; rintro e w1 ⟨rfl, h1⟩; obtain rfl := h1.symm; clear h1)
      | (go_at_call 98; refine (hW _ (below_new _ _)).mono ?_; rintro e w2 ⟨rfl, hP2, hk2⟩))
    (try simp only [Exit.inBlock, Exit.then])
    refine bodyPost_ret (results_none rfl _ _ _) rfl ?_
    exact ⟨rfl, hP2, (Par.of_below (below_new _ _)).trans hk2⟩
  | false =>
    obtain ⟨k, hk⟩ := Option.isSome_iff_exists.1 hf
    have hF := fun W (hb : Below w.heap.size w W) => find_any ((h.below hb).env n rfl).g hE.glen t
    have hkl := findLast_lt hk
    have hkl2 : k < n.E.glob.length := hkl
    have hl := hE.glen
    rw [show findLast n.E.glob t = some k from hk] at hF
    simp only [insI] at hF
    clear hf hk hE
    go_enter Tryz.func125, Tryz.ntmps125
    go_wp2_with (first
      | (go_at_call 152; refine (hF _ (below_new _ _)).mono ?_; rintro e w1 ⟨rfl, h1⟩; obtain rfl := h1.symm; clear h1)
      | (go_at_call 98; refine (hW _ (below_new _ _)).mono ?_; rintro e w2 ⟨rfl, hP2, hk2⟩))
    (try simp only [Exit.inBlock, Exit.then])
    refine bodyPost_ret (results_none rfl _ _ _) rfl ?_
    exact ⟨rfl, hP2, (Par.of_below (below_new _ _)).trans hk2⟩

end

end Go.Proofs.YtklobognaldjpaaGreat
