/- Jobs in a heap: which method is meant; which job goes on first; two of them change places. Jobs in a heap: as a plain list; it goes up, it goes down. Jobs in a heap: one goes down; what lies there is  -/
import Derived.Test.YtklobognaldjpaaGreatCLk9
import Derived.Deep.RegionHeld3
import Derived.Deep.RegionLaw
import Derived.BigRegion
import Derived.BigQuiet
import Derived.Deep.LoopGhost
import Derived.Deep.AppendLies
import Derived.Laws.OwnMore
set_option maxRecDepth 1000000
set_option maxHeartbeats 4000000
namespace Go.Proofs.YtklobognaldjpaaGreat
open Go.RowKit
noncomputable def mRow (name : String) : Option (Option (List FieldStep × Option (FuncId × Bool))) := (Tryz.prog.info? 148).map fun i => (i.methods.find? (·.name == name)).map fun m => (m.path.toList, m.func)
theorem mRow_len : mRow "Len" = some (some ([], some (77, false))) := by kernel_rfl
theorem mRow_less : mRow "Less" = some (some ([], some (248, false))) := by kernel_rfl
theorem mRow_swap : mRow "Swap" = some (some ([], some (249, false))) := by kernel_rfl
theorem mRow_push : mRow "Push" = some (some ([], some (252, true))) := by kernel_rfl
theorem mRow_pop : mRow "Pop" = some (some ([], some (251, true))) := by kernel_rfl
theorem mRow_out {name : String} {l : List FieldStep} {f : Option (FuncId × Bool)} (h : mRow name = some (some (l, f))) : ∃ i m, Tryz.prog.info? 148 = some i /\ i.methods.find? (·.name == name) = some m /\ m.path.toList = l /\ m.func = f := by
 unfold mRow at h
 cases hi : Tryz.prog.info? 148 with
 | none => rw [hi] at h; cases h
 | some i =>
  rw [hi] at h
  simp only [Option.map_some, Option.some.injEq] at h
  cases hm : i.methods.find? (·.name == name) with
  | none => rw [hm] at h; cases h
  | some m =>
   rw [hm] at h
   simp only [Option.map_some, Option.some.injEq, Prod.mk.injEq] at h
   exact ⟨i, m, rfl, hm, h.1, h.2⟩
theorem method_ptr {name : String} {f : FuncId} (h : mRow name = some (some ([], some (f, true)))) (fuel : Nat) (a : Addr) (w : World) :
  (method (fuel + 1) 148 (.pointer (some a)) name).run Tryz.prog w = .ok (f, .pointer (some a)) w := by
 obtain ⟨i, m, hi, hm, hp, hf⟩ := mRow_out h
 unfold method
 simp [go_sem, typeInfo, hi, hm, hp, hf, follow, receiverAt, Place.get]
theorem nilchk_run (name : String) (a : Addr) (w : World) : (Builtin.ssaWrapNilChk_ #[148] 148 #[.pointer (some a), strVal "", strVal name]).run Tryz.prog w = .ok (.pointer (some a)) w := by
 rfl
theorem method_val {name : String} {f : FuncId} (h : mRow name = some (some ([], some (f, false)))) (fuel : Nat) (a : Addr) (v : Value) (w : World) (hc : w.cell? a = some v) :
  (method (fuel + 1) 148 (.pointer (some a)) name).run Tryz.prog w = .ok (f, v) w := by
 obtain ⟨i, m, hi, hm, hp, hf⟩ := mRow_out h
 unfold method
 have hp2 : m.path = #[] := by cases hq : m.path; rw [hq] at hp; simp at hp; rw [hp]
 simp [go_sem, typeInfo, hi, hm, hp2, hf, follow, receiverAt, Place.get, nilchk_run, hc]
def ptrV (b : Nat) : Value := .pointer (some ⟨b, 0, none⟩)
def aheadK (x y : Int × Int) : Bool := if x.1 ≠ y.1 then decide (x.1 < y.1) else decide (x.2 < y.2)
theorem ahead_any {b c : Nat} {x y : Int × Int} {w : World} (b0 : w.cell? ⟨b, 0, none⟩ = some (.int .i64 x.2)) (b3 : w.cell? ⟨b, 3, none⟩ = some (.int .i64 x.1)) (c0 : w.cell? ⟨c, 0, none⟩ = some (.int .i64 y.2)) (c3 : w.cell? ⟨c, 3, none⟩ = some (.int .i64 y.1)) :
  Calls Tryz.prog 250 #[.pointer (some ⟨b, 0, none⟩), .pointer (some ⟨c, 0, none⟩)] w fun e w' => e = .returned (.bool (aheadK x y)) /\ ∃ m, w' = w.drewN m := by
 obtain ⟨x1, x2⟩ := x
 obtain ⟨y1, y2⟩ := y
 simp only at b0 b3 c0 c3
 by_cases h : x1 = y1
 ·subst h
  go_enter Tryz.func250, Tryz.ntmps250
  go_wp2
  go_quiet (fail)
  go_wp2
  go_quiet (fail)
  go_wp2
  go_ret
  exact ⟨by simp [aheadK], _, World.drewN_drewN _ _ _⟩
 ·have hb : (x1 != y1) = true := by simp [h]
  have hd : decide (x1 = y1) = false := decide_eq_false h
  go_enter Tryz.func250, Tryz.ntmps250
  go_wp2
  go_quiet (fail)
  go_wp2
  go_quiet (fail)
  go_wp2
  go_ret
  exact ⟨by simp [aheadK, h], _, World.drewN_drewN _ _ _⟩
theorem less_any {g n cap i k b c : Nat} {x y : Int × Int} {w : World} (hi : i < n) (hk : k < n) (gi : w.cell? ⟨g, i, none⟩ = some (.pointer (some ⟨b, 0, none⟩))) (gk : w.cell? ⟨g, k, none⟩ = some (.pointer (some ⟨c, 0, none⟩))) (b0 : w.cell? ⟨b, 0, none⟩ = some (.int .i64 x.2)) (b3 : w.cell? ⟨b, 3, none⟩ = some (.int .i64 x.1)) (c0 : w.cell? ⟨c, 0, none⟩ = some (.int .i64 y.2)) (c3 : w.cell? ⟨c, 3, none⟩ = some (.int .i64 y.1)) :
  Calls Tryz.prog 248 #[.slice (some ⟨g, 0, none⟩) n cap, .int .i64 (i : Nat), .int .i64 (k : Nat)] w fun e w' => e = .returned (.bool (aheadK x y)) /\ ∃ m, w' = w.drewN m := by
 have hA := fun m => ahead_any (w := w.drewN m) (x := x) (y := y) b0 b3 c0 c3
 have hii : (i : Int) < (n : Int) := by omega
 have hki : (k : Int) < (n : Int) := by omega
 go_enter Tryz.func248, Tryz.ntmps248
 go_wp2
 go_quiet ((go_at_call 250; refine Calls.quiet_of (hA _)))
 go_wp2
 go_ret
 exact ⟨rfl, _, rfl⟩
theorem swap_any {g n cap i k b c : Nat} {w : World} (hi : i < n) (hk : k < n) (gi : w.cell? ⟨g, i, none⟩ = some (.pointer (some ⟨b, 0, none⟩))) (gk : w.cell? ⟨g, k, none⟩ = some (.pointer (some ⟨c, 0, none⟩))) (hf : ∀ o, w.frozen? ⟨g, o, none⟩ = false) :
  Calls Tryz.prog 249 #[.slice (some ⟨g, 0, none⟩) n cap, .int .i64 (i : Nat), .int .i64 (k : Nat)] w fun e w' => e = .returned (.tuple #[]) /\ w' = ((w.drew.setCell ⟨g, i, none⟩ (.pointer (some ⟨c, 0, none⟩))).setCell ⟨g, k, none⟩ (.pointer (some ⟨b, 0, none⟩))) := by
 have hii : (i : Int) < (n : Int) := by omega
 have hki : (k : Int) < (n : Int) := by omega
 have f1 := hf i
 have f2 := hf k
 have hk2 : (w.setCell ⟨g, i, none⟩ (.pointer (some ⟨c, 0, none⟩))).cell? ⟨g, k, none⟩ = some (.pointer (some ⟨c, 0, none⟩)) := by
  by_cases e : k = i
  ·subst e; exact World.cell?_setCell_same _ _ _ gi
  ·rw [World.cell?_setCell_other _ _ _ _ (by intro e2; cases e2; exact e rfl)]; exact gk
 go_enter Tryz.func249, Tryz.ntmps249
 go_wp2
 go_region
 all_goals go_wp2
 all_goals go_end0
 all_goals exact ⟨rfl, rfl⟩
theorem hlen_any (v : Option Addr) (n cap : Nat) (w : World) : Calls Tryz.prog 77 #[.slice v n cap] w fun e w' => e = .returned (.int .i64 (n : Nat)) /\ w' = w := by
 go_enter Tryz.func77, Tryz.ntmps77
 go_wp2
 go_ret
 exact ⟨rfl, rfl⟩
def lessAt (ky : Nat -> Int × Int) (l : List Nat) (i j : Nat) : Bool := aheadK (ky (l.getD i 0)) (ky (l.getD j 0))
def swapL (l : List Nat) (i j : Nat) : List Nat := (l.set i (l.getD j 0)).set j (l.getD i 0)
theorem swapL_len (l : List Nat) (i j : Nat) : (swapL l i j).length = l.length := by simp [swapL]
def upL (ky : Nat -> Int × Int) : Nat -> List Nat -> Nat -> List Nat
 | 0, l, _ => l
 | f + 1, l, j => if (j - 1) / 2 = j ∨ lessAt ky l j ((j - 1) / 2) = false then l else upL ky f (swapL l ((j - 1) / 2) j) ((j - 1) / 2)
def kidL (ky : Nat -> Int × Int) (n : Nat) (l : List Nat) (i : Nat) : Nat := if 2 * i + 2 < n /\ lessAt ky l (2 * i + 2) (2 * i + 1) = true then 2 * i + 2 else 2 * i + 1
def downL (ky : Nat -> Int × Int) (n : Nat) : Nat -> List Nat -> Nat -> List Nat × Nat
 | 0, l, i => (l, i)
 | f + 1, l, i => if n <= 2 * i + 1 ∨ lessAt ky l (kidL ky n l i) i = false then (l, i) else downL ky n f (swapL l i (kidL ky n l i)) (kidL ky n l i)
theorem upL_len (ky : Nat -> Int × Int) : ∀ f l j, (upL ky f l j).length = l.length
 | 0, _, _ => rfl
 | f + 1, l, j => by
  rw [upL]; split
  ·rfl
  ·rw [upL_len, swapL_len]
theorem downL_len (ky : Nat -> Int × Int) (n : Nat) : ∀ f l i, (downL ky n f l i).1.length = l.length
 | 0, _, _ => rfl
 | f + 1, l, i => by
  rw [downL]; split
  ·rfl
  ·rw [downL_len, swapL_len]
structure HS (ky : Nat -> Int × Int) (g cap : Nat) (w : World) (l : List Nat) : Prop where
 own : w.ownsRow 0 103 1 (.slice (some ⟨g, 0, none⟩) l.length cap) l.length (l.map ptrV)
 key : ∀ b ∈ l, w.cell? ⟨b, 0, none⟩ = some (.int .i64 (ky b).2) /\ w.cell? ⟨b, 3, none⟩ = some (.int .i64 (ky b).1) /\ b ≠ g
section
variable {ky : Nat -> Int × Int} {g cap : Nat} {w w' : World} {l : List Nat}
theorem HS.at (h : HS ky g cap w l) {i : Nat} (hi : i < l.length) : w.cell? ⟨g, i, none⟩ = some (.pointer (some ⟨l.getD i 0, 0, none⟩)) := by
 rw [h.own.cellAt i (by omega), List.getElem?_map, List.getElem?_eq_getElem hi]
 simp [List.getD, hi, ptrV]
theorem getD_mem {l : List Nat} {i : Nat} (hi : i < l.length) : l.getD i 0 ∈ l := by
 simp [List.getD, hi]
theorem HS.drew (h : HS ky g cap w l) (m : Nat) : HS ky g cap (w.drewN m) l := ⟨h.own, h.key⟩
theorem mem_swap {i j b : Nat} (hi : i < l.length) (hj : j < l.length) (h : b ∈ swapL l i j) : b ∈ l := by
 unfold swapL at h
 rcases List.mem_or_eq_of_mem_set h with h | h
 ·rcases List.mem_or_eq_of_mem_set h with h | h
  ·exact h
  ·rw [h]; exact getD_mem hj
 ·rw [h]; exact getD_mem hi
theorem HS.swap (h : HS ky g cap w l) {i j : Nat} (hi : i < l.length) (hj : j < l.length) :
  HS ky g cap ((w.drew.setCell ⟨g, i, none⟩ (.pointer (some ⟨l.getD j 0, 0, none⟩))).setCell ⟨g, j, none⟩ (.pointer (some ⟨l.getD i 0, 0, none⟩))) (swapL l i j) /\ Fr (fun b => b = g) w ((w.drew.setCell ⟨g, i, none⟩ (.pointer (some ⟨l.getD j 0, 0, none⟩))).setCell ⟨g, j, none⟩ (.pointer (some ⟨l.getD i 0, 0, none⟩))) := by
 obtain ⟨o1, g1⟩ := (h.own.drew).stored i (.pointer (some ⟨l.getD j 0, 0, none⟩))
 obtain ⟨o2, g2⟩ := o1.stored j (.pointer (some ⟨l.getD i 0, 0, none⟩))
 have hF : Fr (fun b => b = g) w ((w.drew.setCell ⟨g, i, none⟩ (.pointer (some ⟨l.getD j 0, 0, none⟩))).setCell ⟨g, j, none⟩ (.pointer (some ⟨l.getD i 0, 0, none⟩))) :=
  (Fr.of_below (Below.refl _ _).drew).trans ((Fr.of_grown (S := fun b => b = g) g1 rfl).trans (Fr.of_grown (S := fun b => b = g) g2 rfl))
 refine ⟨⟨?_, fun b hb => ?_⟩, hF⟩
 ·rw [swapL_len]
  have e : (swapL l i j).map ptrV = ((l.map ptrV).set i (.pointer (some ⟨l.getD j 0, 0, none⟩))).set j (.pointer (some ⟨l.getD i 0, 0, none⟩)) := by
   unfold swapL; rw [List.map_set, List.map_set]; rfl
  rw [e]
  exact o2
 ·obtain ⟨k0, k3, kn⟩ := h.key b (mem_swap hi hj hb)
  have hl := lt_of_cell k0
  exact ⟨by rw [hF.cell hl kn 0]; exact k0, by rw [hF.cell hl kn 3]; exact k3, kn⟩
theorem HS.less (h : HS ky g cap w l) {i j : Nat} (hi : i < l.length) (hj : j < l.length) : Calls Tryz.prog 248 #[.slice (some ⟨g, 0, none⟩) l.length cap, .int .i64 (i : Nat), .int .i64 (j : Nat)] w fun e w' => e = .returned (.bool (lessAt ky l i j)) /\ ∃ m, w' = w.drewN m := by
 obtain ⟨a0, a3, _⟩ := h.key _ (getD_mem hi)
 obtain ⟨b0, b3, _⟩ := h.key _ (getD_mem hj)
 exact less_any (n := l.length) (cap := cap) hi hj (h.at hi) (h.at hj) a0 a3 b0 b3
theorem HS.swaps (h : HS ky g cap w l) {i j : Nat} (hi : i < l.length) (hj : j < l.length) : Calls Tryz.prog 249 #[.slice (some ⟨g, 0, none⟩) l.length cap, .int .i64 (i : Nat), .int .i64 (j : Nat)] w fun e w' => e = .returned (.tuple #[]) /\ HS ky g cap w' (swapL l i j) /\ Fr (fun b => b = g) w w' := by
 refine (swap_any (n := l.length) (cap := cap) hi hj (h.at hi) (h.at hj) (fun x => h.own.frozenAt x)).mono ?_
 rintro e w' ⟨rfl, rfl⟩
 exact ⟨rfl, h.swap hi hj⟩
end
theorem below_drewH (w : World) (m : Nat) : Below w.heap.size w (w.drewN m) := ⟨rfl, rfl, rfl, Nat.le_refl _, fun _ _ => rfl⟩
theorem upL_fuel (ky : Nat -> Int × Int) : ∀ (f e : Nat) (l : List Nat) (j : Nat), j < f -> j < e -> upL ky f l j = upL ky e l j
 | 0, _, _, _, h, _ => by omega
 | _ + 1, 0, _, _, _, h => by omega
 | f + 1, e + 1, l, j, h1, h2 => by
  rw [upL, upL]
  by_cases hx : (j - 1) / 2 = j ∨ lessAt ky l j ((j - 1) / 2) = false
  ·rw [if_pos hx, if_pos hx]
  ·rw [if_neg hx, if_neg hx]
   have : (j - 1) / 2 ≠ j := fun h => hx (.inl h)
   exact upL_fuel ky f e _ _ (by omega) (by omega)
theorem up_any {ky : Nat -> Int × Int} {g cap rb o : Nat} {w : World} {l : List Nat} (h : HS ky g cap w l) (hc : w.cell? ⟨rb, o, none⟩ = some (.slice (some ⟨g, 0, none⟩) l.length cap)) (hrb : rb ≠ g) {j : Nat} (hj : j < l.length) (hl : l.length <= 1000) :
  Calls Tryz.prog 116 #[.iface 148 (.pointer (some ⟨rb, o, none⟩)), .int .i64 (j : Nat)] w fun e w' => e = .returned (.tuple #[]) /\ HS ky g cap w' (upL ky (j + 1) l j) /\ Fr (fun b => b = g) w w' := by
 have hrl := lt_of_cell hc
 go_enter Tryz.func116, Tryz.ntmps116
 go_wp2
 go_loopw [1] (fun t wr => ∃ (i : Nat) (k : List Nat), t = .int .i64 i /\ i < k.length /\ k.length = l.length /\ upL ky (i + 1) k i = upL ky (j + 1) l j /\ HS ky g cap wr k /\ Fr (fun b => b = g) w wr) (fun t _ => (intOf t).toNat)
 case atStart => exact ⟨j, l, rfl, hj, rfl, rfl, h, Fr.refl _ _⟩
 case round =>
  obtain ⟨i, k, rfl, hi, hkl, hup, hS, hF⟩ := hrel
  have hcr : wr.cell? ⟨rb, o, none⟩ = some (.slice (some ⟨g, 0, none⟩) k.length cap) := by rw [hF.cell hrl hrb o, hkl]; exact hc
  cases i with
  | zero =>
   have e : upL ky (0 + 1) k 0 = k := by rw [upL, if_pos (.inl rfl)]
   rw [e] at hup
   go_wp2
   go_end0
   exact ⟨rfl, hup ▸ hS, hF⟩
  | succ i =>
   obtain ⟨q, hq⟩ : ∃ q, i / 2 = q := ⟨_, rfl⟩
   have hqi : q <= i := by omega
   have h1 : (i : Int).tdiv 2 = (q : Int) := by rw [Int.tdiv_eq_ediv_of_nonneg (by omega)]; omega
   have h2 : (i : Int) / 2 = (q : Int) := by omega
   have h3 : ((q : Int) == (i : Int) + 1) = false := by simp; omega
   have h4 : decide ((q : Int) = (i : Int) + 1) = false := decide_eq_false (by omega)
   have hM1 : (method 427 148 (.pointer (some ⟨rb, o, none⟩)) "Less").run Tryz.prog wr = .ok (248, .slice (some ⟨g, 0, none⟩) k.length cap) wr := method_val mRow_less 426 _ _ _ hcr
   have hM2 : ∀ m, (method 427 148 (.pointer (some ⟨rb, o, none⟩)) "Swap").run Tryz.prog (wr.drewN m) = .ok (249, .slice (some ⟨g, 0, none⟩) k.length cap) (wr.drewN m) := fun m => method_val mRow_swap 426 _ _ _ hcr
   have hL := hS.less hi (show q < k.length by omega)
   have hW := fun m => (hS.drew m).swaps (show q < k.length by omega) hi
   have hun : upL ky (i + 1 + 1) k (i + 1) = if lessAt ky k (i + 1) q = false then k else upL ky (i + 1) (swapL k q (i + 1)) q := by
    rw [upL, show (i + 1 - 1) / 2 = q by omega]
    by_cases hx : lessAt ky k (i + 1) q = false
    ·rw [if_pos (.inr hx), if_pos hx]
    ·rw [if_neg (by rintro (h | h); omega; exact hx h), if_neg hx]
   have hcast : ((i + 1 : Nat) : Int) = (i : Int) + 1 := by omega
   rw [hcast] at hL
   simp only [hcast] at hW
   have hib : i <= 1000 := by omega
   have hqb : q <= 1000 := by omega
   rw [hun] at hup
   have HS1 : Hid (HS ky g cap wr k) := hS
   have HF1 : Hid (Fr (fun b => b = g) w wr) := hF
   clear hS hF hun
   cases hb : lessAt ky k (i + 1) q with
   | false =>
    rw [hb, if_pos rfl] at hup
    rw [hb] at hL
    have HUP : Hid (k = upL ky (j + 1) l j) := hup
    clear hup hcast hkl hb hq
    go_wp2_with (go_at_call 248; refine hL.mono ?_; rintro e w1 ⟨rfl, m, rfl⟩)
    go_end0
    exact ⟨rfl, HUP.out ▸ HS1.out.drew m, HF1.out.trans (Fr.of_below (below_drewH _ _))⟩
   | true =>
    rw [hb, if_neg (by simp)] at hup
    rw [hb] at hL
    have hfu : upL ky (q + 1) (swapL k q (i + 1)) q = upL ky (i + 1) (swapL k q (i + 1)) q := upL_fuel ky _ _ _ _ (by omega) (by omega)
    rw [<- hfu] at hup
    have HUP : Hid (upL ky (q + 1) (swapL k q (i + 1)) q = upL ky (j + 1) l j) := hup
    have HKL : Hid (k.length = l.length) := hkl
    clear hup hcast hkl hb hq hfu
    go_wp2_with (first
     | (go_at_call 248; refine hL.mono ?_; rintro e w1 ⟨rfl, m, rfl⟩)
     | (go_at_call 249; refine (hW m).mono ?_; rintro e w2 ⟨rfl, t1, t2⟩))
    go_roundw
    case rel =>
     exact ⟨q, _, rfl, by rw [swapL_len]; omega, by rw [swapL_len]; exact HKL.out, HUP.out, t1, HF1.out.trans ((Fr.of_below (below_drewH _ _)).trans t2)⟩
    case measure => simp [intOf]; omega
theorem kid_lt {ky : Nat -> Int × Int} {n : Nat} {l : List Nat} {i : Nat} (h : 2 * i + 1 < n) : i < kidL ky n l i /\ kidL ky n l i < n := by
 unfold kidL; split
 ·rename_i h2; omega
 ·omega
theorem downL_fuel (ky : Nat -> Int × Int) (n : Nat) : ∀ (f e : Nat) (l : List Nat) (i : Nat), n - i < f -> n - i < e -> downL ky n f l i = downL ky n e l i
 | 0, _, _, _, h, _ => by omega
 | _ + 1, 0, _, _, _, h => by omega
 | f + 1, e + 1, l, i, h1, h2 => by
  rw [downL, downL]
  by_cases hx : n <= 2 * i + 1 ∨ lessAt ky l (kidL ky n l i) i = false
  ·rw [if_pos hx, if_pos hx]
  ·rw [if_neg hx, if_neg hx]
   have := kid_lt (ky := ky) (l := l) (show 2 * i + 1 < n by by_cases h : n <= 2 * i + 1; exact absurd (.inl h) hx; omega)
   exact downL_fuel ky n f e _ _ (by omega) (by omega)
theorem down_any {ky : Nat -> Int × Int} {g cap rb o : Nat} {w : World} {l : List Nat} (h : HS ky g cap w l) (hc : w.cell? ⟨rb, o, none⟩ = some (.slice (some ⟨g, 0, none⟩) l.length cap)) (hrb : rb ≠ g) {i0 n : Nat} (hn : n <= l.length) (hi0 : i0 <= 1000) (hl : l.length <= 1000) :
  Calls Tryz.prog 115 #[.iface 148 (.pointer (some ⟨rb, o, none⟩)), .int .i64 (i0 : Nat), .int .i64 (n : Nat)] w fun e w' => e = .returned (.bool (decide (i0 < (downL ky n (n - i0 + 1) l i0).2))) /\ HS ky g cap w' (downL ky n (n - i0 + 1) l i0).1 /\ Fr (fun b => b = g) w w' := by
 have hrl := lt_of_cell hc
 obtain ⟨D, hD⟩ : ∃ D, downL ky n (n - i0 + 1) l i0 = D := ⟨_, rfl⟩
 rw [hD]
 go_enter Tryz.func115, Tryz.ntmps115
 go_wp2
 go_loopw [7] (fun t wr => ∃ (i : Nat) (k : List Nat), t = .int .i64 i /\ i <= 1000 /\ k.length = l.length /\ Hid (downL ky n (n - i + 1) k i = D) /\ HS ky g cap wr k /\ Fr (fun b => b = g) w wr) (fun t _ => n - (intOf t).toNat)
 case atStart => exact ⟨i0, l, rfl, hi0, rfl, hD, h, Fr.refl _ _⟩
 case round =>
  obtain ⟨i, k, rfl, hi, hkl, HDN, hS, hF⟩ := hrel
  have hcr : wr.cell? ⟨rb, o, none⟩ = some (.slice (some ⟨g, 0, none⟩) k.length cap) := by rw [hF.cell hrl hrb o, hkl]; exact hc
  have hun : downL ky n (n - i + 1) k i = if n <= 2 * i + 1 ∨ lessAt ky k (kidL ky n k i) i = false then (k, i) else downL ky n (n - i) (swapL k i (kidL ky n k i)) (kidL ky n k i) := by rw [downL]
  have HS1 : Hid (HS ky g cap wr k) := hS
  have HF1 : Hid (Fr (fun b => b = g) w wr) := hF
  have hkn : n <= k.length := by omega
  obtain ⟨a, ha⟩ : ∃ a : Nat, 2 * i + 1 = a := ⟨_, rfl⟩
  have hai : 2 * (i : Int) + 1 = (a : Int) := by omega
  by_cases h1 : n <= a
  ·have h1i : (a : Int) ≥ (n : Int) := by omega
   have e : downL ky n (n - i + 1) k i = (k, i) := by rw [hun, if_pos (.inl (by omega))]
   have HE : Hid (D = (k, i)) := by show _ = _; rw [<- HDN.out, e]
   clear hS hF hun e HDN ha hkl hcr hD
   go_wp2
   go_ret
   exact ⟨by rw [HE.out]; simp, by rw [HE.out]; exact HS1.out, HF1.out⟩
  ·have h1i : ¬ (a : Int) ≥ (n : Int) := by omega
   have h0i : ¬ (a : Int) < 0 := by omega
   obtain ⟨b, hb⟩ : ∃ b : Nat, a + 1 = b := ⟨_, rfl⟩
   have hbi : (a : Int) + 1 = (b : Int) := by omega
   have hM1 : ∀ m, (method 427 148 (.pointer (some ⟨rb, o, none⟩)) "Less").run Tryz.prog (wr.drewN m) = .ok (248, .slice (some ⟨g, 0, none⟩) k.length cap) (wr.drewN m) := fun m => method_val mRow_less 426 _ _ _ hcr
   have hM0 : (method 427 148 (.pointer (some ⟨rb, o, none⟩)) "Less").run Tryz.prog wr = .ok (248, .slice (some ⟨g, 0, none⟩) k.length cap) wr := method_val mRow_less 426 _ _ _ hcr
   have hM2 : ∀ m, (method 427 148 (.pointer (some ⟨rb, o, none⟩)) "Swap").run Tryz.prog (wr.drewN m) = .ok (249, .slice (some ⟨g, 0, none⟩) k.length cap) (wr.drewN m) := fun m => method_val mRow_swap 426 _ _ _ hcr
   have hab : a <= 1000 := by omega
   have hbb : b <= 1001 := by omega
   have hLj : ∀ m j, j < n -> Calls Tryz.prog 248 #[.slice (some ⟨g, 0, none⟩) k.length cap, .int .i64 (j : Nat), .int .i64 (i : Nat)] (wr.drewN m) fun e w' => e = .returned (.bool (lessAt ky k j i)) /\ ∃ m2, w' = wr.drewN m2 := fun m j hj => ((hS.drew m).less (i := j) (j := i) (by omega) (by omega)).mono (by rintro e w' ⟨rfl, m2, rfl⟩; exact ⟨rfl, _, World.drewN_drewN _ _ _⟩)
   have hLz : ∀ j, j < n -> Calls Tryz.prog 248 #[.slice (some ⟨g, 0, none⟩) k.length cap, .int .i64 (j : Nat), .int .i64 (i : Nat)] wr fun e w' => e = .returned (.bool (lessAt ky k j i)) /\ ∃ m2, w' = wr.drewN m2 := fun j hj => hS.less (i := j) (j := i) (by omega) (by omega)
   have hWj : ∀ m j, j < n -> Calls Tryz.prog 249 #[.slice (some ⟨g, 0, none⟩) k.length cap, .int .i64 (i : Nat), .int .i64 (j : Nat)] (wr.drewN m) fun e w' => e = .returned (.tuple #[]) /\ HS ky g cap w' (swapL k i j) /\ Fr (fun b => b = g) wr w' := fun m j hj => ((hS.drew m).swaps (i := i) (j := j) (by omega) (by omega)).mono (by rintro e w' ⟨rfl, t1, t2⟩; exact ⟨rfl, t1, (Fr.of_below (below_drewH _ _)).trans t2⟩)
   have HKL : Hid (k.length = l.length) := hkl
   have HUN : Hid (downL ky n (n - i + 1) k i = if n <= 2 * i + 1 ∨ lessAt ky k (kidL ky n k i) i = false then (k, i) else downL ky n (n - i) (swapL k i (kidL ky n k i)) (kidL ky n k i)) := hun
   have HFIN : Hid (∀ j, kidL ky n k i = j -> lessAt ky k j i = false -> D = (k, i)) := fun j hj hx => by rw [<- HDN.out, HUN.out, hj, if_pos (.inr hx)]
   have HGO : Hid (∀ j, kidL ky n k i = j -> lessAt ky k j i = true -> i < j -> j < n -> Hid (downL ky n (n - j + 1) (swapL k i j) j = D)) := fun j hj hx h3 h4 => by
    show _ = _
    rw [<- HDN.out, HUN.out, hj, if_neg (by rintro (h | h); omega; rw [h] at hx; cases hx)]
    exact downL_fuel ky n _ _ _ _ (by omega) (by omega)
   have HA : Hid (2 * i + 1 = a /\ a + 1 = b) := ⟨ha, hb⟩
   clear hun hkl hcr hD HDN HUN
   have han : a < n := by omega
   by_cases h2 : b < n
   ·have h2i : (b : Int) < (n : Int) := by omega
    have hLb := hS.less (i := b) (j := a) (by omega) (by omega)
    clear hS hF ha hb
    cases hx : lessAt ky k b a with
    | true =>
     rw [hx] at hLb
     have HK : Hid (kidL ky n k i = b) := by show _ = _; unfold kidL; rw [show 2 * i + 2 = b by have := HA.out; omega, show 2 * i + 1 = a from HA.out.1, if_pos ⟨h2, hx⟩]
     have hij : i < b := by have := HA.out; omega
     cases hy : lessAt ky k b i with
     | false =>
      have HE : Hid (D = (k, i)) := HFIN.out b HK.out hy
      have hL2 := fun m => hLj m b (by omega)
      simp only [hy] at hL2
      clear hLj hLz hWj hy hx
      go_wp2_with (first
       | (go_at_call 248; have _q := m1; refine (hL2 _).mono ?_; rintro e w2 ⟨rfl, m2, rfl⟩)
       | (go_at_call 248; refine hLb.mono ?_; rintro e w1 ⟨rfl, m1, rfl⟩))
      go_ret
      exact ⟨by rw [HE.out]; simp, by rw [HE.out]; exact HS1.out.drew _, HF1.out.trans (Fr.of_below (below_drewH _ _))⟩
     | true =>
      have HE := HGO.out b HK.out hy hij (by omega)
      have hL2 := fun m => hLj m b (by omega)
      simp only [hy] at hL2
      have hW2 := fun m => hWj m b (by omega)
      clear hLj hLz hWj hy hx
      go_wp2_with (first
       | (go_at_call 248; have _q := m1; refine (hL2 _).mono ?_; rintro e w2 ⟨rfl, m2, rfl⟩)
       | (go_at_call 248; refine hLb.mono ?_; rintro e w1 ⟨rfl, m1, rfl⟩)
       | (go_at_call 249; refine (hW2 _).mono ?_; rintro e w3 ⟨rfl, t1, t2⟩))
      go_roundw
      case rel => exact ⟨b, _, rfl, by omega, by rw [swapL_len]; exact HKL.out, HE, t1, HF1.out.trans t2⟩
      case measure => simp [intOf]; omega
    | false =>
     rw [hx] at hLb
     have HK : Hid (kidL ky n k i = a) := by show _ = _; unfold kidL; rw [show 2 * i + 2 = b by have := HA.out; omega, show 2 * i + 1 = a from HA.out.1, if_neg (by rintro ⟨_, h⟩; rw [h] at hx; cases hx)]
     have hij : i < a := by have := HA.out; omega
     cases hy : lessAt ky k a i with
     | false =>
      have HE : Hid (D = (k, i)) := HFIN.out a HK.out hy
      have hL2 := fun m => hLj m a (by omega)
      simp only [hy] at hL2
      clear hLj hLz hWj hy hx
      go_wp2_with (first
       | (go_at_call 248; have _q := m1; refine (hL2 _).mono ?_; rintro e w2 ⟨rfl, m2, rfl⟩)
       | (go_at_call 248; refine hLb.mono ?_; rintro e w1 ⟨rfl, m1, rfl⟩))
      go_ret
      exact ⟨by rw [HE.out]; simp, by rw [HE.out]; exact HS1.out.drew _, HF1.out.trans (Fr.of_below (below_drewH _ _))⟩
     | true =>
      have HE := HGO.out a HK.out hy hij (by omega)
      have hL2 := fun m => hLj m a (by omega)
      simp only [hy] at hL2
      have hW2 := fun m => hWj m a (by omega)
      clear hLj hLz hWj hy hx
      go_wp2_with (first
       | (go_at_call 248; have _q := m1; refine (hL2 _).mono ?_; rintro e w2 ⟨rfl, m2, rfl⟩)
       | (go_at_call 248; refine hLb.mono ?_; rintro e w1 ⟨rfl, m1, rfl⟩)
       | (go_at_call 249; refine (hW2 _).mono ?_; rintro e w3 ⟨rfl, t1, t2⟩))
      go_roundw
      case rel => exact ⟨a, _, rfl, by omega, by rw [swapL_len]; exact HKL.out, HE, t1, HF1.out.trans t2⟩
      case measure => simp [intOf]; omega
   ·have h2i : ¬ (b : Int) < (n : Int) := by omega
    clear hS hF ha hb
    have HK : Hid (kidL ky n k i = a) := by show _ = _; unfold kidL; rw [show 2 * i + 2 = b by have := HA.out; omega, show 2 * i + 1 = a from HA.out.1, if_neg (by rintro ⟨h, _⟩; exact h2 h)]
    have hij : i < a := by have := HA.out; omega
    cases hy : lessAt ky k a i with
    | false =>
     have HE : Hid (D = (k, i)) := HFIN.out a HK.out hy
     have hL2 := hLz a (by omega)
     rw [hy] at hL2
     clear hLj hLz hWj hy
     go_wp2_with (go_at_call 248; refine hL2.mono ?_; rintro e w2 ⟨rfl, m2, rfl⟩)
     go_ret
     exact ⟨by rw [HE.out]; simp, by rw [HE.out]; exact HS1.out.drew _, HF1.out.trans (Fr.of_below (below_drewH _ _))⟩
    | true =>
     have HE := HGO.out a HK.out hy hij (by omega)
     have hL2 := hLz a (by omega)
     rw [hy] at hL2
     have hW2 := fun m => hWj m a (by omega)
     clear hLj hLz hWj hy
     go_wp2_with (first
      | (go_at_call 248; refine hL2.mono ?_; rintro e w2 ⟨rfl, m2, rfl⟩)
      | (go_at_call 249; refine (hW2 _).mono ?_; rintro e w3 ⟨rfl, t1, t2⟩))
     go_roundw
     case rel => exact ⟨a, _, rfl, by omega, by rw [swapL_len]; exact HKL.out, HE, t1, HF1.out.trans t2⟩
     case measure => simp [intOf]; omega
end Go.Proofs.YtklobognaldjpaaGreat
