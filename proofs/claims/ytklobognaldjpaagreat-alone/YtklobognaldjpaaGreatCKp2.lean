/- What package lecternkeep does: pick, digits. What package lecternkeep does: joined, words. -/
import Derived.Test.YtklobognaldjpaaGreatCScan5
import Derived.Test.YtklobognaldjpaaGreatCVo1
import Derived.Test.YtklobognaldjpaaGreatCEv1
import Derived.Laws.IdiomStrings
import Derived.Laws.Concat
import Derived.Test.YtklobognaldjpaaGreatCLes7
set_option maxHeartbeats 2000000
set_option maxRecDepth 1000000
namespace Go.Proofs.YtklobognaldjpaaGreat
open Go.RowKit
theorem str_add (a b : List UInt8) : (⟨a.toArray⟩ : ByteArray) ++ ⟨b.toArray⟩ = ⟨(a ++ b).toArray⟩ := by
  simp [ByteArray.mk_append_mk]
theorem str_size (a : List UInt8) : (⟨a.toArray⟩ : ByteArray).size = a.length := by show a.toArray.size = _; simp
theorem pick_any (c n : Int) (w : World) (h1 : -9223372036854775808 ≤ c) (h2 : c ≤ 9223372036854775807) (hn : 0 < n) (hn2 : n ≤ 9223372036854775807) :
    Calls Tryz.prog 23 #[.int .i64 c, .int .i64 n] w fun e w' => e = .returned (.int .i64 (pickI c n)) ∧ w' = w := by
  unfold pickI
  by_cases hc : c < 0
  · rw [if_pos hc]
    go_enter Tryz.func23, Tryz.ntmps23
    go_wp2
    go_ret
    exact ⟨ret_int (by rw [Int.neg_tmod]), rfl⟩
  · rw [if_neg hc]
    go_enter Tryz.func23, Tryz.ntmps23
    go_wp2
    go_ret
    exact ⟨ret_int (by rw [Int.tmod_eq_emod_of_nonneg (by omega)]), rfl⟩
def digT (n : Nat) : List UInt8 := if n = 0 then [] else digL n
theorem digF_more : ∀ (f g n : Nat), n < 10 ^ f → n < 10 ^ g → 0 < f → 0 < g → digF f n = digF g n
  | f + 1, g + 1, n, h1, h2, _, _ => by
    rw [digF, digF]
    split
    · rfl
    · rename_i h
      cases f with
      | zero => simp at h1; omega
      | succ f =>
        cases g with
        | zero => simp at h2; omega
        | succ g =>
          have e1 : n / 10 < 10 ^ (f + 1) := by rw [Nat.div_lt_iff_lt_mul (by omega)]; rw [Nat.pow_succ] at h1; omega
          have e2 : n / 10 < 10 ^ (g + 1) := by rw [Nat.div_lt_iff_lt_mul (by omega)]; rw [Nat.pow_succ] at h2; omega
          rw [digF_more (f + 1) (g + 1) (n / 10) e1 e2 (by omega) (by omega)]
theorem digL_step {n : Nat} (h : n < 10 ^ 19) : digL n = digT (n / 10) ++ [UInt8.ofNat (48 + n % 10)] := by
  unfold digL digT
  rw [digF]
  split
  · rename_i h1
    rw [if_pos (by omega), Nat.mod_eq_of_lt h1]; rfl
  · rw [if_neg (by omega)]
    unfold digL
    rw [digF_more 19 20 (n / 10) (by omega) (by omega) (by omega) (by omega)]
theorem conv_one (w : World) (c : UInt8) (t : TypeId) : (convert 95 9 (.slice (some ⟨w.heap.size, 0, none⟩) 1 1)).run Tryz.prog (w.alloc (.cells #[.int .u8 (c.toNat : Int)] t)) = .ok (.string ⟨#[c]⟩) (w.alloc (.cells #[.int .u8 (c.toNat : Int)] t)) := by
  have := run_convert_bytes_back (P := Tryz.prog) (w.alloc (.cells #[.int .u8 (c.toNat : Int)] t)) 95 9 5 ⟨w.heap.size, 0, none⟩ 1 [c] Tryz.underlying95 Tryz.underlying5 Tryz.underlying9 (by
    intro j hj
    have : j = 0 := by simp at hj; exact hj
    subst this
    simp [Addr.add])
  exact this
theorem conv_dig (w : World) (m : Nat) (h : m < 10) (t : TypeId) : (convert 95 9 (.slice (some ⟨w.heap.size, 0, none⟩) 1 1)).run Tryz.prog (w.alloc (.cells #[.int .u8 (48 + (m : Int))] t)) = .ok (.string ⟨#[UInt8.ofNat (48 + m)]⟩) (w.alloc (.cells #[.int .u8 (48 + (m : Int))] t)) := by
  have e : (48 + (m : Int)) = ((UInt8.ofNat (48 + m)).toNat : Int) := by
    rw [UInt8.toNat_ofNat']; omega
  rw [e]
  exact conv_one w _ t
def measD (t v : Value) : Nat := 2 * (intOf t).toNat + match v with | .string s => (if s.size = 0 then 1 else 0) | _ => 0
theorem digF_len : ∀ (f n : Nat), (digF f n).length ≤ f
  | 0, n => by simp [digF]
  | f + 1, n => by
    rw [digF]
    split
    · simp
    · rw [List.length_append, List.length_singleton]; have := digF_len f (n / 10); omega
theorem dig_rel {n m q d : Nat} {s : List UInt8} (hn : n ≤ 9223372036854775807) (hm : m ≤ n) (hd : d < 10) (e : m = 10 * q + d) (h1 : s ≠ [] → digT m ++ s = digL n) (h2 : s = [] → m = n) (hz : 0 < m ∨ s = []) :
    digT q ++ (UInt8.ofNat (48 + d) :: s) = digL n ∧ (UInt8.ofNat (48 + d) :: s).length ≤ 20 := by
  have hst := digL_step (n := m) (by omega)
  have hq : m / 10 = q := by omega
  have hd2 : m % 10 = d := by omega
  rw [hq, hd2] at hst
  have key : digT q ++ (UInt8.ofNat (48 + d) :: s) = digL n := by
    by_cases hs : s = []
    · subst hs
      rw [← h2 rfl, hst]
    · have hm0 : 0 < m := by rcases hz with h | h; exact h; exact absurd h hs
      rw [← h1 hs]
      unfold digT
      rw [if_neg (show m ≠ 0 by omega), hst]
      unfold digT
      simp
  refine ⟨key, ?_⟩
  have h3 : (digT q ++ (UInt8.ofNat (48 + d) :: s)).length ≤ 20 := by rw [key]; exact digF_len 20 n
  rw [List.length_append] at h3
  omega
theorem dig_str (d : Nat) (s : List UInt8) : Value.string (⟨#[48 + UInt8.ofNat d]⟩ ++ ⟨s.toArray⟩) = .string ⟨(UInt8.ofNat (48 + d) :: s).toArray⟩ := by
  congr 1
  rw [ByteArray.mk_append_mk]
  congr 1
  apply Array.ext'
  simp
theorem meas_lt {q m d : Nat} {s : List UInt8} (h : m = 10 * q + d) (hz : 0 < m ∨ s = []) : measD (.int .i64 q) (.string ⟨(UInt8.ofNat (48 + d) :: s).toArray⟩) < measD (.int .i64 m) (.string ⟨s.toArray⟩) := by
  have e : (⟨(UInt8.ofNat (48 + d) :: s).toArray⟩ : ByteArray).size ≠ 0 := by show (UInt8.ofNat (48 + d) :: s).toArray.size ≠ 0; simp
  unfold measD
  simp only [if_neg e, intOf]
  rcases hz with hz | rfl
  · omega
  · have e2 : (⟨([] : List UInt8).toArray⟩ : ByteArray).size = 0 := rfl
    simp only [e2, if_pos]
    omega
theorem digits_any (n : Nat) (w : World) (hn : n ≤ 9223372036854775807) :
    Calls Tryz.prog 27 #[.int .i64 n] w fun e w' => e = .returned (.string ⟨(digL n).toArray⟩) ∧ Below w.heap.size w w' := by
  go_enter Tryz.func27, Tryz.ntmps27
  go_wp2
  go_loopw [0, 3] (fun t v wr => ∃ (m : Nat) (s : List UInt8), m ≤ n ∧ t = .int .i64 m ∧ v = .string ⟨s.toArray⟩ ∧ s.length ≤ 20 ∧ Hid (s ≠ [] → digT m ++ s = digL n) ∧ Hid (s = [] → m = n) ∧ Below w.heap.size w wr) (fun t v _ => measD t v)
  case atStart => exact ⟨n, [], Nat.le_refl _, rfl, rfl, by simp, fun h => absurd rfl h, fun _ => rfl, Below.refl _ _⟩
  case round =>
    obtain ⟨m, s, hm, rfl, rfl, hs, h1, h2, hb⟩ := hrel
    have hm0 : (m : Int) ≤ 9223372036854775807 := by omega
    obtain ⟨d, hd, hd10⟩ : ∃ d : Nat, d < 10 ∧ (m : Int) % 10 = (d : Int) := ⟨m % 10, by omega, by omega⟩
    obtain ⟨q, hq, hq10⟩ : ∃ q : Nat, q ≤ m ∧ (m : Int) / 10 = (q : Int) := ⟨m / 10, by omega, by omega⟩
    have hd' : (d : Int) < 10 := by omega
    have hcv := fun t => conv_dig wr d hd t
    have HD : Hid (m = 10 * q + d) := by show _ = _; omega
    by_cases hz : 0 < m
    · have hz' : (0 : Int) < m := by omega
      go_wp2
      go_roundw
      case rel =>
        obtain ⟨k1, k2⟩ := dig_rel hn hm hd HD.out h1.out h2.out (.inl hz)
        exact ⟨q, UInt8.ofNat (48 + d) :: s, by omega, rfl, dig_str d s, k2, fun _ => k1, (fun h => by cases h), hb.alloc hb.size _⟩
      case measure =>
        rw [dig_str]
        exact meas_lt HD.out (.inl hz)
    · have hz' : ¬ (0 : Int) < m := by omega
      cases s with
      | nil =>
        go_wp2
        go_roundw
        case rel =>
          obtain ⟨k1, k2⟩ := dig_rel hn hm hd HD.out h1.out h2.out (.inr rfl)
          exact ⟨q, [UInt8.ofNat (48 + d)], by omega, rfl, dig_str d [], k2, fun _ => k1, (fun h => by cases h), hb.alloc hb.size _⟩
        case measure =>
          rw [show Value.string _ = _ from dig_str d []]
          exact meas_lt HD.out (.inr rfl)
      | cons c r =>
        have HR : Hid (digL n = c :: r) := by
          have := h1.out (by simp)
          unfold digT at this
          rw [if_pos (by omega)] at this
          exact this.symm
        clear h1 h2
        go_wp2
        go_ret
        exact ⟨by rw [HR.out]; rfl, hb⟩
def strV (t : List UInt8) : Value := .string ⟨t.toArray⟩
def WordsAt (w : World) (b : Nat) (ws : List (List UInt8)) : Prop := ∀ j t, ws[j]? = some t → w.cell? ⟨b, j, none⟩ = some (strV t)
theorem joinG_take {g : List UInt8} {ws : List (List UInt8)} {k : Nat} (h : k < ws.length) : joinG g (ws.take (k + 1)) = if k = 0 then ws[k] else joinG g (ws.take k) ++ (g ++ ws[k]) := by
  rw [List.take_succ_eq_append_getElem h, joinG_snoc]
  by_cases hk : k = 0
  · subst hk; simp
  · rw [if_neg hk, if_neg]
    intro e
    have : (ws.take k).length = 0 := by rw [e]; rfl
    rw [List.length_take] at this
    omega
theorem joinG_take_le (g : List UInt8) (l : List (List UInt8)) (c : Nat) : (joinG g (l.take c)).length ≤ (joinG g l).length := by
  have h : (joinG g l).length = (joinG g (l.take c ++ l.drop c)).length := by rw [List.take_append_drop]
  rw [h, joinG_len_append]
  omega
theorem joined_any (b c : Nat) (ws : List (List UInt8)) (g : List UInt8) (w : World) (hbig : ws.length ≤ 1000000) (hl : (joinG g ws).length ≤ 1000000) (hc : WordsAt w b ws) :
    Calls Tryz.prog 25 #[.slice (some ⟨b, 0, none⟩) ws.length c, .string ⟨g.toArray⟩] w fun e w' => e = .returned (strV (joinG g ws)) ∧ w' = w := by
  go_enter Tryz.func25, Tryz.ntmps25
  go_wp2
  go_loop [5, 6] (fun s i => ∃ k : Nat, k ≤ ws.length ∧ i = .int .i64 k ∧ s = strV (joinG g (ws.take k))) (fun _ i => ws.length - (intOf i).toNat)
  case atStart => exact ⟨0, Nat.zero_le _, rfl, rfl⟩
  case round =>
    obtain ⟨k, hk, rfl, rfl⟩ := hrel
    unfold strV
    by_cases hlt : k < ws.length
    · have hcell : w.cell? ⟨b, k, none⟩ = some (.string ⟨ws[k].toArray⟩) := hc k ws[k] (List.getElem?_eq_getElem hlt)
      have hj := joinG_take (g := g) hlt
      have hle := joinG_take_le g ws (k + 1)
      have hle0 := joinG_take_le g ws k
      clear hc
      by_cases h0 : k = 0
      · subst h0
        rw [if_pos rfl] at hj
        have HJ : Hid (joinG g (ws.take 1) = ws[0]) := hj
        have e0 : joinG g (ws.take 0) = [] := rfl
        rw [e0]
        rw [hj] at hle
        generalize ws[0] = t at *
        have ht : t.length ≤ 1000000 := by omega
        clear hj hle hle0 e0
        go_wp2
        go_round
        case rel => exact ⟨1, by omega, rfl, by rw [HJ.out]; exact congrArg Value.string (str_add [] t)⟩
        case measure => simp [intOf]; omega
      · rw [if_neg h0] at hj
        have HJ : Hid (joinG g (ws.take (k + 1)) = joinG g (ws.take k) ++ (g ++ ws[k])) := hj
        rw [hj] at hle
        generalize ws[k] = t at *
        generalize joinG g (ws.take k) = a at *
        have ht : a.length + (g.length + t.length) ≤ 1000000 := by rw [List.length_append, List.length_append] at hle; omega
        have h0' : (0 : Int) < k := by omega
        clear hj hle hle0
        go_wp2
        go_round
        case rel => exact ⟨k + 1, by omega, by go_num, by rw [HJ.out, str_add, str_add, List.append_assoc]⟩
        case measure => simp [intOf]; omega
    · go_wp2
      go_ret
      exact ⟨by rw [List.take_of_length_le (by omega)]; rfl, rfl⟩
theorem Tryz.infoStr : (Tryz.prog.info? 9).map (fun i => (i.zero, i.size, i.bytes)) = some (some (.string ⟨#[]⟩), 1, 16) := by kernel_rfl
def wordsGo : List UInt8 → List UInt8 → List (List UInt8)
  | [], cur => if cur = [] then [] else [cur]
  | c :: r, cur => if c = 32 then (if cur = [] then wordsGo r [] else cur :: wordsGo r []) else wordsGo r (cur ++ [c])
def wordsL (l : List UInt8) : List (List UInt8) := wordsGo l []
def mid (l : List UInt8) (a b : Nat) : List UInt8 := (l.drop a).take (b - a)
theorem mid_snoc {l : List UInt8} {a b : Nat} (h : a ≤ b) (hb : b < l.length) : mid l a (b + 1) = mid l a b ++ [l[b]] := by
  unfold mid
  have e : b + 1 - a = (b - a) + 1 := by omega
  rw [e, List.take_succ_eq_append_getElem (by rw [List.length_drop]; omega)]
  simp [List.getElem_drop, Nat.add_sub_of_le h]
theorem mid_nil {l : List UInt8} {a b : Nat} (hb : b ≤ l.length) (h : a ≤ b) : mid l a b = [] ↔ a = b := by
  unfold mid
  constructor
  · intro e
    have : ((l.drop a).take (b - a)).length = 0 := by rw [e]; rfl
    rw [List.length_take, List.length_drop] at this
    omega
  · intro e; subst e; simp
theorem extract_midL (s : ByteArray) (a b : Nat) : s.extract a b = ⟨(mid s.data.toList a b).toArray⟩ := by
  unfold mid
  apply ByteArray.ext
  apply Array.toList_inj.1
  simp only [ByteArray.data_extract, Array.toList_extract, List.extract_eq_take_drop]
theorem owns_map {w : World} {base : Nat} {e : TypeId} {v : Value} {n m : Nat} {a b : List Value} (h : w.ownsRow base e 1 v n a) (h1 : n = m) (h2 : a = b) : w.ownsRow base e 1 v m b := by subst h1; subst h2; exact h
theorem cell_one_new (w : World) (v : Value) (t : TypeId) : ∀ j u, [v][j]? = some u → (w.alloc (.cells #[v] t)).cell? ((⟨w.heap.size, 0, none⟩ : Addr).add j) = some u := by
  intro j u hj
  match j, hj with
  | 0, hj => simp at hj; subst hj; simp [Addr.add]
  | j + 1, hj => simp at hj
theorem words_any (s : ByteArray) (w : World) (hm : s.size ≤ 1000) :
    Calls Tryz.prog 50 #[.string s] w fun e w' => Below w.heap.size w w' ∧ ∃ v, e = .returned v ∧ w'.ownsRow w.heap.size 9 1 v (wordsL s.data.toList).length ((wordsL s.data.toList).map strV) := by
  obtain ⟨i0, hi, hz0, hz1, hz2⟩ := info_parts Tryz.infoStr
  have hlen : s.data.toList.length = s.size := len_toList s
  go_enter Tryz.func50, Tryz.ntmps50
  go_wp2
  go_loopw [3, 4, 5] (fun v f i wr => ∃ (acc : List (List UInt8)) (a k : Nat), k ≤ s.size + 1 ∧ acc.length ≤ k ∧ f = .int .i64 a ∧ i = .int .i64 k ∧ wr.ownsRow w.heap.size 9 1 v acc.length (acc.map strV) ∧ Below w.heap.size w wr ∧
      Hid (k ≤ s.size → a ≤ k ∧ acc ++ wordsGo (s.data.toList.drop k) (mid s.data.toList a k) = wordsL s.data.toList) ∧ Hid (s.size < k → acc = wordsL s.data.toList)) (fun _ _ i _ => s.size + 1 - (intOf i).toNat)
  case atStart => exact ⟨[], 0, 0, by omega, by simp, rfl, rfl, World.ownsRow_nil _ _ _ _, Below.refl _ _, fun _ => ⟨Nat.le_refl _, rfl⟩, fun h => by omega⟩
  case round =>
    obtain ⟨acc, a, k, hk, hacc, rfl, rfl, hown, hbw, H1, H2⟩ := hrel
    have hbs := hbw.size
    by_cases hle : k ≤ s.size
    · obtain ⟨hak, he⟩ := H1.out hle
      have hmn := mid_nil (l := s.data.toList) (a := a) (b := k) (by omega) hak
      clear H1 H2
      by_cases hfin : k = s.size
      · subst hfin
        rw [List.drop_of_length_le (by omega)] at he
        by_cases hlt : a < s.size
        · have hne : mid s.data.toList a s.size ≠ [] := fun h => by have := hmn.1 h; omega
          have HE : Hid (acc ++ [mid s.data.toList a s.size] = wordsL s.data.toList) := by
            show _ = _; rw [← he]; unfold wordsGo; rw [if_neg hne]
          have hx : s.extract a s.size = ⟨(mid s.data.toList a s.size).toArray⟩ := extract_midL s a s.size
          clear he hmn hne
          generalize mid s.data.toList a s.size = tm at *
          generalize wordsL s.data.toList = WL at *
          go_wp2_with (first
            | (at_builtin; refine wpList_append_own _ rfl _ _ 45 rfl w.heap.size 9 i0 _ 1 16 Tryz.underlying45 hi hz0 hz1 hz2 rfl (by decide) _ _ _ rfl (hown.alloc _) ⟨_, 0, none⟩ 1 1 [strV tm] rfl rfl (cell_one_new _ _ _) ?h1 ?h63 ?hby ?hbase ?hh
               case h1 => intro u hu; simp at hu; subst hu; rfl
               case h63 => unfold maxLen; omega
               case hby => omega
               case hbase => simp; omega
               intro v' w3 hown' hgrow3 hnil3
               have hb3 : Below w.heap.size w w3 := Below.grown (hbw.alloc hbs _) hgrow3 (by simp; omega) (fun k hk => (hown.lt _ hk).1)
               have X : Aside (w3.ownsRow w.heap.size 9 1 v' (acc.length + 1) (acc.map strV ++ [strV tm]) ∧ Below w.heap.size w w3) := ⟨hown', hb3⟩
               clear hown' hgrow3 hnil3 hb3))
          go_roundw
          case rel => exact ⟨acc ++ [tm], s.size + 1, s.size + 1, by omega, by rw [List.length_append, List.length_singleton]; omega, by go_num, by go_num, owns_map X.out.1 (by simp) (by simp), X.out.2, fun h => absurd h (by omega), fun _ => HE.out⟩
          case measure => simp [intOf]
        · have hae : a = s.size := by omega
          have hn : mid s.data.toList a s.size = [] := hmn.2 hae
          have HE : Hid (acc = wordsL s.data.toList) := by
            show _ = _; rw [← he, hn]; simp [wordsGo]
          clear he hmn hn
          go_wp2
          go_roundw
          case rel => exact ⟨acc, s.size + 1, s.size + 1, by omega, by omega, by go_num, by go_num, hown, hbw, fun h => absurd h (by omega), fun _ => HE.out⟩
          case measure => simp [intOf]
      · have hlt : k < s.size := by omega
        have hkl : k < s.data.toList.length := by omega
        have hd := List.drop_eq_getElem_cons hkl
        rw [hd] at he
        have hsn := mid_snoc (l := s.data.toList) (a := a) (b := k) hak hkl
        have hgk : s.data.toList[k] = s[k] := rfl
        rw [hgk] at he hsn
        by_cases hc : s[k].toNat = 32
        · have hc32 : s[k] = 32 := UInt8.toNat_inj.1 hc
          rw [hc32] at he
          have hm0 : mid s.data.toList (k + 1) (k + 1) = [] := by simp [mid]
          have hci : (s[k].toNat : Int) = 32 := by omega
          by_cases hak2 : a < k
          · have hne : mid s.data.toList a k ≠ [] := fun h => by have := hmn.1 h; omega
            have HE : Hid (acc ++ [mid s.data.toList a k] ++ wordsGo (s.data.toList.drop (k + 1)) (mid s.data.toList (k + 1) (k + 1)) = wordsL s.data.toList) := by
              show _ = _; rw [← he, hm0, wordsGo, if_pos rfl, if_neg hne]; simp
            have hx : s.extract a k = ⟨(mid s.data.toList a k).toArray⟩ := extract_midL s a k
            clear he hmn hne hsn hgk hd hm0 hc32 hc
            generalize mid s.data.toList a k = tm at *
            generalize wordsL s.data.toList = WL at *
            go_wp2_with (first
              | (at_builtin; refine wpList_append_own _ rfl _ _ 45 rfl w.heap.size 9 i0 _ 1 16 Tryz.underlying45 hi hz0 hz1 hz2 rfl (by decide) _ _ _ rfl (hown.alloc _) ⟨_, 0, none⟩ 1 1 [strV tm] rfl rfl (cell_one_new _ _ _) ?g1 ?g63 ?gby ?gbase ?gh
                 case g1 => intro u hu; simp at hu; subst hu; rfl
                 case g63 => unfold maxLen; omega
                 case gby => omega
                 case gbase => simp; omega
                 intro v' w3 hown' hgrow3 hnil3
                 have hb3 : Below w.heap.size w w3 := Below.grown (hbw.alloc hbs _) hgrow3 (by simp; omega) (fun k hk => (hown.lt _ hk).1)
                 have X : Aside (w3.ownsRow w.heap.size 9 1 v' (acc.length + 1) (acc.map strV ++ [strV tm]) ∧ Below w.heap.size w w3) := ⟨hown', hb3⟩
                 clear hown' hgrow3 hnil3 hb3))
            go_roundw
            case rel => exact ⟨acc ++ [tm], k + 1, k + 1, by omega, by rw [List.length_append, List.length_singleton]; omega, by go_num, by go_num, owns_map X.out.1 (by simp) (by simp), X.out.2, fun _ => ⟨Nat.le_refl _, HE.out⟩, fun h => absurd h (by omega)⟩
            case measure => simp [intOf]; omega
          · have hae : a = k := by omega
            have hn : mid s.data.toList a k = [] := hmn.2 hae
            have HE : Hid (acc ++ wordsGo (s.data.toList.drop (k + 1)) (mid s.data.toList (k + 1) (k + 1)) = wordsL s.data.toList) := by
              show _ = _; rw [← he, hm0, wordsGo, if_pos rfl, hn, if_pos rfl]
            clear he hmn hsn hgk hd hm0 hc32 hc hn
            go_wp2
            go_roundw
            case rel => exact ⟨acc, k + 1, k + 1, by omega, by omega, by go_num, by go_num, hown, hbw, fun _ => ⟨Nat.le_refl _, HE.out⟩, fun h => absurd h (by omega)⟩
            case measure => simp [intOf]; omega
        · have hc32 : s[k] ≠ 32 := fun h => hc (by rw [h]; rfl)
          have hci : ((s[k].toNat : Int) == 32) = false := by simp; omega
          have HE : Hid (acc ++ wordsGo (s.data.toList.drop (k + 1)) (mid s.data.toList a (k + 1)) = wordsL s.data.toList) := by
            show _ = _; rw [← he, hsn, wordsGo, if_neg hc32]
          clear he hmn hsn hgk hd hc32 hc
          go_wp2
          go_roundw
          case rel => exact ⟨acc, a, k + 1, by omega, by omega, rfl, by go_num, hown, hbw, fun _ => ⟨by omega, HE.out⟩, fun h => absurd h (by omega)⟩
          case measure => simp [intOf]; omega
    · have HE := H2.out (by omega)
      clear H1 H2
      go_wp2
      go_ret
      exact ⟨hbw, _, rfl, owns_map hown (by rw [HE]) (by rw [HE])⟩
end Go.Proofs.YtklobognaldjpaaGreat
