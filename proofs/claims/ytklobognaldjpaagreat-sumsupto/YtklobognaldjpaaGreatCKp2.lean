/- What package lecternkeep does: pick, digits. What package lecternkeep does: joined, words. -/
import Derived.Test.YtklobognaldjpaaGreatCScan5
import Derived.Test.YtklobognaldjpaaGreatCIn1
import Derived.Test.YtklobognaldjpaaGreatCEv2
import Derived.Laws.IdiomStrings
import Derived.Laws.Concat
import Derived.Test.YtklobognaldjpaaGreatCLes7
namespace Go.Proofs.YtklobognaldjpaaGreat
open Go.RowKit

theorem str_add (a b : List UInt8) : (⟨a.toArray⟩ : ByteArray) ++ ⟨b.toArray⟩ = ⟨(a ++ b).toArray⟩ := by
  simp [ByteArray.mk_append_mk]

set_option maxHeartbeats 400000 in
theorem pick_any (c n : Int) (w : World) (h1 : -9223372036854775808 ≤ c) (h2 : c ≤ 9223372036854775807) (hn : 0 < n) (hn2 : n ≤ 9223372036854775807) :
    Calls Tryz.prog 23 #[.int .i64 c, .int .i64 n] w fun e w' => e = .returned (.int .i64 (pickI c n)) ∧ w' = w := by
  unfold pickI
  by_cases hc : c < 0
  · rw [if_pos hc]
    go_enter Tryz.func23, Tryz.ntmps23
    go_wp2
    go_ret
    exact ⟨ret_int (by rw [Int.neg_tmod]), rfl⟩
  · rw [if_neg hc]
    go_enter Tryz.func23, Tryz.ntmps23
    go_wp2
    go_ret
    exact ⟨ret_int (by rw [Int.tmod_eq_emod_of_nonneg (by omega)]), rfl⟩

/-- The digits ahead of those that are there already. -/
def digT (n : Nat) : List UInt8 := if n = 0 then [] else digL n

theorem digF_more : ∀ (f g n : Nat), n < 10 ^ f → n < 10 ^ g → 0 < f → 0 < g → digF f n = digF g n
  | f + 1, g + 1, n, h1, h2, _, _ => by
    rw [digF, digF]
    split
    · rfl
    · rename_i h
      cases f with
      | zero => simp at h1; omega
      | succ f =>
        cases g with
        | zero => simp at h2; omega
        | succ g =>
          have e1 : n / 10 < 10 ^ (f + 1) := by rw [Nat.div_lt_iff_lt_mul (by omega)]; rw [Nat.pow_succ] at h1; omega
          have e2 : n / 10 < 10 ^ (g + 1) := by rw [Nat.div_lt_iff_lt_mul (by omega)]; rw [Nat.pow_succ] at h2; omega
          rw [digF_more (f + 1) (g + 1) (n / 10) e1 e2 (by omega) (by omega)]

theorem digL_step {n : Nat} (h : n < 10 ^ 19) : digL n = digT (n / 10) ++ [UInt8.ofNat (48 + n % 10)] := by
  unfold digL digT
  rw [digF]
  split
  · rename_i h1
    rw [if_pos (by omega), Nat.mod_eq_of_lt h1]; rfl
  · rw [if_neg (by omega)]
    unfold digL
    rw [digF_more 19 20 (n / 10) (by omega) (by omega) (by omega) (by omega)]

/-- One byte, as a text. -/
theorem conv_one (w : World) (c : UInt8) (t : TypeId) : (convert 95 9 (.slice (some ⟨w.heap.size, 0, none⟩) 1 1)).run Tryz.prog (w.alloc (.cells #[.int .u8 (c.toNat : Int)] t)) = .ok (.string ⟨#[c]⟩) (w.alloc (.cells #[.int .u8 (c.toNat : Int)] t)) := by
  have := run_convert_bytes_back (P := Tryz.prog) (w.alloc (.cells #[.int .u8 (c.toNat : Int)] t)) 95 9 5 ⟨w.heap.size, 0, none⟩ 1 [c] Tryz.underlying95 Tryz.underlying5 Tryz.underlying9 (by
    intro j hj
    have : j = 0 := by simp at hj; exact hj
    subst this
    simp [Addr.add])
  exact this

theorem conv_dig (w : World) (m : Nat) (h : m < 10) (t : TypeId) : (convert 95 9 (.slice (some ⟨w.heap.size, 0, none⟩) 1 1)).run Tryz.prog (w.alloc (.cells #[.int .u8 (48 + (m : Int))] t)) = .ok (.string ⟨#[UInt8.ofNat (48 + m)]⟩) (w.alloc (.cells #[.int .u8 (48 + (m : Int))] t)) := by
  have e : (48 + (m : Int)) = ((UInt8.ofNat (48 + m)).toNat : Int) := by
    rw [UInt8.toNat_ofNat']; omega
  rw [e]
  exact conv_one w _ t

def measD (t v : Value) : Nat := 2 * (intOf t).toNat + match v with | .string s => (if s.size = 0 then 1 else 0) | _ => 0

theorem digF_len : ∀ (f n : Nat), (digF f n).length ≤ f
  | 0, n => by simp [digF]
  | f + 1, n => by
    rw [digF]
    split
    · simp
    · rw [List.length_append, List.length_singleton]; have := digF_len f (n / 10); omega

theorem dig_rel {n m q d : Nat} {s : List UInt8} (hn : n ≤ 9223372036854775807) (hm : m ≤ n) (hd : d < 10) (e : m = 10 * q + d) (h1 : s ≠ [] → digT m ++ s = digL n) (h2 : s = [] → m = n) (hz : 0 < m ∨ s = []) :
    digT q ++ (UInt8.ofNat (48 + d) :: s) = digL n ∧ (UInt8.ofNat (48 + d) :: s).length ≤ 20 := by
  have hst := digL_step (n := m) (by omega)
  have hq : m / 10 = q := by omega
  have hd2 : m % 10 = d := by omega
  rw [hq, hd2] at hst
  have key : digT q ++ (UInt8.ofNat (48 + d) :: s) = digL n := by
    by_cases hs : s = []
    · subst hs
      rw [← h2 rfl, hst]
    · have hm0 : 0 < m := by rcases hz with h | h; exact h; exact absurd h hs
      rw [← h1 hs]
      unfold digT
      rw [if_neg (show m ≠ 0 by omega), hst]
      unfold digT
      simp
  refine ⟨key, ?_⟩
  have h3 : (digT q ++ (UInt8.ofNat (48 + d) :: s)).length ≤ 20 := by rw [key]; exact digF_len 20 n
  rw [List.length_append] at h3
  omega

theorem dig_str (d : Nat) (s : List UInt8) : Value.string (⟨#[48 + UInt8.ofNat d]⟩ ++ ⟨s.toArray⟩) = .string ⟨(UInt8.ofNat (48 + d) :: s).toArray⟩ := by
  congr 1
  rw [ByteArray.mk_append_mk]
  congr 1
  apply Array.ext'
  simp

theorem meas_lt {q m d : Nat} {s : List UInt8} (h : m = 10 * q + d) (hz : 0 < m ∨ s = []) : measD (.int .i64 q) (.string ⟨(UInt8.ofNat (48 + d) :: s).toArray⟩) < measD (.int .i64 m) (.string ⟨s.toArray⟩) := by
  have e : (⟨(UInt8.ofNat (48 + d) :: s).toArray⟩ : ByteArray).size ≠ 0 := by show (UInt8.ofNat (48 + d) :: s).toArray.size ≠ 0; simp
  unfold measD
  simp only [if_neg e, intOf]
  rcases hz with hz | rfl
  · omega
  · have e2 : (⟨([] : List UInt8).toArray⟩ : ByteArray).size = 0 := rfl
    simp only [e2, if_pos]
    omega

set_option maxRecDepth 1000000 in
set_option maxHeartbeats 1000000 in
theorem digits_any (n : Nat) (w : World) (hn : n ≤ 9223372036854775807) :
    Calls Tryz.prog 27 #[.int .i64 n] w fun e w' => e = .returned (.string ⟨(digL n).toArray⟩) ∧ Below w.heap.size w w' := by
  go_enter Tryz.func27, Tryz.ntmps27
  go_wp2
  go_loopw [0, 3] (fun t v wr => ∃ (m : Nat) (s : List UInt8), m ≤ n ∧ t = .int .i64 m ∧ v = .string ⟨s.toArray⟩ ∧ s.length ≤ 20 ∧ Hid (s ≠ [] → digT m ++ s = digL n) ∧ Hid (s = [] → m = n) ∧ Below w.heap.size w wr) (fun t v _ => measD t v)
  case atStart => exact ⟨n, [], Nat.le_refl _, rfl, rfl, by simp, fun h => absurd rfl h, fun _ => rfl, Below.refl _ _⟩
  case round =>
    obtain ⟨m, s, hm, rfl, rfl, hs, h1, h2, hb⟩ := hrel
    have hm0 : (m : Int) ≤ 9223372036854775807 := by omega
    obtain ⟨d, hd, hd10⟩ : ∃ d : Nat, d < 10 ∧ (m : Int) % 10 = (d : Int) := ⟨m % 10, by omega, by omega⟩
    obtain ⟨q, hq, hq10⟩ : ∃ q : Nat, q ≤ m ∧ (m : Int) / 10 = (q : Int) := ⟨m / 10, by omega, by omega⟩
    have hd' : (d : Int) < 10 := by omega
    have hcv := fun t => conv_dig wr d hd t
    have HD : Hid (m = 10 * q + d) := by show _ = _; omega
    by_cases hz : 0 < m
    · have hz' : (0 : Int) < m := by omega
      go_wp2
      go_roundw
      case rel =>
        obtain ⟨k1, k2⟩ := dig_rel hn hm hd HD.out h1.out h2.out (.inl hz)
        exact ⟨q, UInt8.ofNat (48 + d) :: s, by omega, rfl, dig_str d s, k2, fun _ => k1, (fun h => by cases h), hb.alloc hb.size _⟩
      case measure =>
        rw [dig_str]
        exact meas_lt HD.out (.inl hz)
    · have hz' : ¬ (0 : Int) < m := by omega
      cases s with
      | nil =>
        go_wp2
        go_roundw
        case rel =>
          obtain ⟨k1, k2⟩ := dig_rel hn hm hd HD.out h1.out h2.out (.inr rfl)
          exact ⟨q, [UInt8.ofNat (48 + d)], by omega, rfl, dig_str d [], k2, fun _ => k1, (fun h => by cases h), hb.alloc hb.size _⟩
        case measure =>
          rw [show Value.string _ = _ from dig_str d []]
          exact meas_lt HD.out (.inr rfl)
      | cons c r =>
        have HR : Hid (digL n = c :: r) := by
          have := h1.out (by simp)
          unfold digT at this
          rw [if_pos (by omega)] at this
          exact this.symm
        clear h1 h2
        go_wp2
        go_ret
        exact ⟨by rw [HR.out]; rfl, hb⟩

end Go.Proofs.YtklobognaldjpaaGreat

namespace Go.Proofs.YtklobognaldjpaaGreat
open Go.RowKit

theorem Tryz.infoStr : (Tryz.prog.info? 9).map (fun i => (i.zero, i.size, i.bytes)) = some (some (.string ⟨#[]⟩), 1, 16) := by kernel_rfl

theorem cell_one_new (w : World) (v : Value) (t : TypeId) : ∀ j u, [v][j]? = some u → (w.alloc (.cells #[v] t)).cell? ((⟨w.heap.size, 0, none⟩ : Addr).add j) = some u := by
  intro j u hj
  match j, hj with
  | 0, hj => simp at hj; subst hj; simp [Addr.add]
  | j + 1, hj => simp at hj

end Go.Proofs.YtklobognaldjpaaGreat
