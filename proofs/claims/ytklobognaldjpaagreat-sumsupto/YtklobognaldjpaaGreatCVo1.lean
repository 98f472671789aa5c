/- The program: the values of an input. -/
import Derived.Test.YtklobognaldjpaaGreatCMc5
import Derived.Test.YtklobognaldjpaaGreatCIn1
import Derived.Deep.AppendLies
import Derived.Laws.OwnMore
import Derived.Deep.CutBlock
import Derived.Deep.DeepCutAuto
namespace Go.Proofs.YtklobognaldjpaaGreat
open Go.RowKit

/-- All are values. -/
def okIn (zs : List Int) : Bool := zs.all fun z => decide (-2147483648 ≤ z ∧ z ≤ 2147483647)

/-- What the values of an input are. -/
def VoPost (zs : List Int) (w : World) (e : Ending) (w' : World) : Prop :=
  Below w.heap.size w w' ∧ ((okIn zs = true ∧ ∃ vi, e = .returned (.tuple #[vi, .bool true]) ∧ w'.ownsRow w.heap.size 21 1 vi zs.length (zs.map (.int .i32))) ∨ (okIn zs = false ∧ e = .returned (.tuple #[.slice none 0 0, .bool false])))

set_option maxRecDepth 1000000 in
set_option maxHeartbeats 4000000 in
theorem valuesOf_any (v : Value) (zs : List Int) (w : World) (hin : IntsAt w v zs) (hl : zs.length ≤ 35184372088831) :
    Calls Tryz.prog 70 #[v] w (VoPost zs w) := by
  obtain ⟨i0, hi, hz0, hz1, hz2⟩ := info_parts Tryz.infoI32
  obtain ⟨a, cap, rfl, hm, hr, hc⟩ := hin
  have HR : Hid (∀ n ∈ zs, -9223372036854775808 ≤ n ∧ n ≤ 9223372036854775807) := hr
  have HC : Hid (zs = [] ∨ ∃ b off, a = some ⟨b, off, none⟩ ∧ b < w.heap.size ∧ ∀ i, i < zs.length → w.cell? ⟨b, off + i, none⟩ = some (.int .i64 (zs.getD i 0))) := hc
  clear hr hc
  go_enter Tryz.func70, Tryz.ntmps70
  go_wp2_with (at_make; refine wpList_make_own _ rfl _ _ 129 rfl w.heap.size 21 i0 _ 1 Tryz.underlying129 hi hz0 hz1 .i64 .i64 _ zs.length rfl rfl rfl (by rw [hz2]; omega) (by unfold maxLen; omega) (Nat.le_refl _) ?_
               intro w1 ho1 hg1)
  have hB1 : Below w.heap.size w w1 := ⟨hg1.os, hg1.tape, hg1.output, hg1.size, fun k hk => hg1.block k hk (by simp)⟩
  go_loopw [4, 6, 12] (fun s4 _ i wr => ∃ j : Nat, i = .int .i64 j ∧ j ≤ zs.length ∧ okIn (zs.take j) = true ∧ wr.ownsRow w.heap.size 21 1 s4 j ((zs.take j).map (.int .i32)) ∧ Below w.heap.size w wr) (fun _ _ i _ => zs.length - (intOf i).toNat)
  case atStart => exact ⟨0, rfl, Nat.zero_le _, rfl, by simpa using ho1, hB1⟩
  case round =>
    obtain ⟨j, rfl, hj, hok, hown, hB⟩ := hrel
    by_cases hlt : j < zs.length
    · rcases HC.out with h0 | ⟨b, off, rfl, hbl, hcs⟩
      · rw [h0] at hlt; simp at hlt
      · have hcell : wr.cell? ⟨b, off + j, none⟩ = some (.int .i64 zs[j]) := by
          rw [hB.cell (p := ⟨b, off + j, none⟩) hbl, hcs j hlt]; simp [List.getD, hlt]
        have hrj := HR.out zs[j] (List.getElem_mem hlt)
        have hsj : zs.take (j + 1) = zs.take j ++ [zs[j]] := by rw [List.take_add_one, List.getElem?_eq_getElem hlt]; rfl
        have HS : Hid (zs.take (j + 1) = zs.take j ++ [zs[j]]) := hsj
        have HALL : Hid (¬ (-2147483648 ≤ zs[j] ∧ zs[j] ≤ 2147483647) → okIn zs = false) := fun hn => by
          unfold okIn
          rw [List.all_eq_false]
          exact ⟨zs[j], List.getElem_mem hlt, by simpa using hn⟩
        clear hsj
        have hjl : (j : Int) < (zs.length : Int) := by omega
        generalize zs[j] = z at *
        by_cases hz : -2147483648 ≤ z ∧ z ≤ 2147483647
        · have h1 : ¬ z < -2147483648 := by omega
          have h2 : ¬ z > 2147483647 := by omega
          have hwr : IntKind.i32.wrap z = z := by rw [i32_wrap]; unfold wrapV Int.bmod; simp only; split <;> omega
          have hownA := hown.alloc (.cells #[.int .i32 z] 21)
          have hks : ∀ q u, [Value.int .i32 z][q]? = some u → (wr.alloc (.cells #[.int .i32 z] 21)).cell? ((⟨wr.heap.size, 0, none⟩ : Addr).add q) = some u := by
            intro q u hq
            cases q with
            | zero => simp at hq; subst hq; exact World.cell?_alloc_new wr #[.int .i32 z] 21 0
            | succ q => simp at hq
          have hsz : w.heap.size ≤ (wr.alloc (.cells #[.int .i32 z] 21)).heap.size := by have := hB.size; simp; omega
          have HO : Hid (okIn (zs.take (j + 1)) = true) := by
            show _ = _
            rw [HS.out]
            unfold okIn at hok ⊢
            rw [List.all_append, hok]
            simp [hz]
          have HBB := hB
          obtain ⟨va, vc, hva⟩ := owned_slice hown
          subst hva
          go_wp2_with (at_builtin; refine wpList_append_own2 rfl _ _ 129 rfl w.heap.size 21 i0 _ 1 4 Tryz.underlying129 hi hz0 hz1 hz2 rfl (by decide) _ _ _ rfl hownA ⟨wr.heap.size, 0, none⟩ 1 1 [.int .i32 z] rfl (by simp) hks ?h1 ?h63 ?hby ?hbase ?hh
                       case h1 => intro u hu; simp at hu; subst hu; rfl
                       case h63 => unfold maxLen; omega
                       case hby => omega
                       case hbase => exact hsz
                       intro v' w5 hown5 hg5 hn5
                       have HN5 : Hid (Below w.heap.size w w5 ∧ w5.ownsRow w.heap.size 21 1 v' (j + 1) ((zs.take (j + 1)).map (.int .i32))) := ⟨(HBB.alloc HBB.size _).trans ⟨hg5.os, hg5.tape, hg5.output, hg5.size, fun k hk => hg5.block k (by have := HBB.size; simp; omega) (fun e => by have := (hownA.lt k e.symm).1; omega)⟩, by rw [HS.out, List.map_append]; exact hown5⟩
                       obtain ⟨va2, vc2, rfl⟩ := owned_slice hown5)
          go_roundw
          case rel => exact ⟨j + 1, by go_num, by omega, HO.out, HN5.out.2, HN5.out.1⟩
          case measure => simp [intOf]; omega
        · have HF := HALL.out hz
          have HFI : Hid _ := HF
          by_cases h1 : z < -2147483648
          · go_wp2
            refine bodyPost_ret (v := .tuple #[.slice none 0 0, .bool false]) (by simp [results, Tryz.results70, go_sem]) rfl ?_
            exact ⟨hB, .inr ⟨HFI.out, rfl⟩⟩
          · have h2 : z > 2147483647 := by omega
            go_wp2
            refine bodyPost_ret (v := .tuple #[.slice none 0 0, .bool false]) (by simp [results, Tryz.results70, go_sem]) rfl ?_
            exact ⟨hB, .inr ⟨HFI.out, rfl⟩⟩
    · have ej : j = zs.length := by omega
      subst ej
      rw [List.take_length] at hok hown
      obtain ⟨va, vc, hva⟩ := owned_slice hown
      subst hva
      go_wp2
      refine bodyPost_ret (v := .tuple #[.slice va zs.length vc, .bool true]) (by simp [results, Tryz.results70, go_sem]) rfl ?_
      exact ⟨hB, .inl ⟨hok, _, rfl, hown⟩⟩

end Go.Proofs.YtklobognaldjpaaGreat
