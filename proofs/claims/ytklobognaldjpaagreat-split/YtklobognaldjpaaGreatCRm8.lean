/- What package lecternkeep does: pick, digits. What package lecternkeep does: joined, words. Plain: Run by evaluation, of a text that is written out. What package lecternkeep does: sameInts, is. What pa -/
import Derived.Test.YtklobognaldjpaaGreatCScan5
import Derived.Test.YtklobognaldjpaaGreatCVo1
import Derived.Test.YtklobognaldjpaaGreatCEv1
import Derived.Laws.IdiomStrings
import Derived.Laws.Concat
import Derived.Test.YtklobognaldjpaaGreatCLes7
import Derived.Test.YtklobognaldjpaaGreatCRn2
import Derived.Test.YtklobognaldjpaaGreatCRun2
set_option maxHeartbeats 2000000
set_option maxRecDepth 1000000
namespace Go.Proofs.YtklobognaldjpaaGreat
open Go.RowKit
theorem str_add (a b : List UInt8) : (⟨a.toArray⟩ : ByteArray) ++ ⟨b.toArray⟩ = ⟨(a ++ b).toArray⟩ := by
 simp [ByteArray.mk_append_mk]
theorem str_size (a : List UInt8) : (⟨a.toArray⟩ : ByteArray).size = a.length := by show a.toArray.size = _; simp
theorem pick_any (c n : Int) (w : World) (h1 : -9223372036854775808 <= c) (h2 : c <= 9223372036854775807) (hn : 0 < n) (hn2 : n <= 9223372036854775807) :
  Calls Tryz.prog 23 #[.int .i64 c, .int .i64 n] w fun e w' => e = .returned (.int .i64 (pickI c n)) /\ w' = w := by
 unfold pickI
 by_cases hc : c < 0
 ·rw [if_pos hc]
  go_enter Tryz.func23, Tryz.ntmps23
  go_wp2
  go_ret
  exact ⟨ret_int (by rw [Int.neg_tmod]), rfl⟩
 ·rw [if_neg hc]
  go_enter Tryz.func23, Tryz.ntmps23
  go_wp2
  go_ret
  exact ⟨ret_int (by rw [Int.tmod_eq_emod_of_nonneg (by omega)]), rfl⟩
def digT (n : Nat) : List UInt8 := if n = 0 then [] else digL n
theorem digF_more : ∀ (f g n : Nat), n < 10 ^ f -> n < 10 ^ g -> 0 < f -> 0 < g -> digF f n = digF g n
 | f + 1, g + 1, n, h1, h2, _, _ => by
  rw [digF, digF]
  split
  ·rfl
  ·rename_i h
   cases f with
   | zero => simp at h1; omega
   | succ f =>
    cases g with
    | zero => simp at h2; omega
    | succ g =>
     have e1 : n / 10 < 10 ^ (f + 1) := by rw [Nat.div_lt_iff_lt_mul (by omega)]; rw [Nat.pow_succ] at h1; omega
     have e2 : n / 10 < 10 ^ (g + 1) := by rw [Nat.div_lt_iff_lt_mul (by omega)]; rw [Nat.pow_succ] at h2; omega
     rw [digF_more (f + 1) (g + 1) (n / 10) e1 e2 (by omega) (by omega)]
theorem digL_step {n : Nat} (h : n < 10 ^ 19) : digL n = digT (n / 10) ++ [UInt8.ofNat (48 + n % 10)] := by
 unfold digL digT
 rw [digF]
 split
 ·rename_i h1
  rw [if_pos (by omega), Nat.mod_eq_of_lt h1]; rfl
 ·rw [if_neg (by omega)]
  unfold digL
  rw [digF_more 19 20 (n / 10) (by omega) (by omega) (by omega) (by omega)]
theorem conv_one (w : World) (c : UInt8) (t : TypeId) : (convert 95 9 (.slice (some ⟨w.heap.size, 0, none⟩) 1 1)).run Tryz.prog (w.alloc (.cells #[.int .u8 (c.toNat : Int)] t)) = .ok (.string ⟨#[c]⟩) (w.alloc (.cells #[.int .u8 (c.toNat : Int)] t)) := by
 have := run_convert_bytes_back (P := Tryz.prog) (w.alloc (.cells #[.int .u8 (c.toNat : Int)] t)) 95 9 5 ⟨w.heap.size, 0, none⟩ 1 [c] Tryz.underlying95 Tryz.underlying5 Tryz.underlying9 (by
  intro j hj
  have : j = 0 := by simp at hj; exact hj
  subst this
  simp [Addr.add])
 exact this
theorem conv_dig (w : World) (m : Nat) (h : m < 10) (t : TypeId) : (convert 95 9 (.slice (some ⟨w.heap.size, 0, none⟩) 1 1)).run Tryz.prog (w.alloc (.cells #[.int .u8 (48 + (m : Int))] t)) = .ok (.string ⟨#[UInt8.ofNat (48 + m)]⟩) (w.alloc (.cells #[.int .u8 (48 + (m : Int))] t)) := by
 have e : (48 + (m : Int)) = ((UInt8.ofNat (48 + m)).toNat : Int) := by
  rw [UInt8.toNat_ofNat']; omega
 rw [e]
 exact conv_one w _ t
def measD (t v : Value) : Nat := 2 * (intOf t).toNat + match v with | .string s => (if s.size = 0 then 1 else 0) | _ => 0
theorem digF_len : ∀ (f n : Nat), (digF f n).length <= f
 | 0, n => by simp [digF]
 | f + 1, n => by
  rw [digF]
  split
  ·simp
  ·rw [List.length_append, List.length_singleton]; have := digF_len f (n / 10); omega
theorem dig_rel {n m q d : Nat} {s : List UInt8} (hn : n <= 9223372036854775807) (hm : m <= n) (hd : d < 10) (e : m = 10 * q + d) (h1 : s ≠ [] -> digT m ++ s = digL n) (h2 : s = [] -> m = n) (hz : 0 < m ∨ s = []) :
  digT q ++ (UInt8.ofNat (48 + d) :: s) = digL n /\ (UInt8.ofNat (48 + d) :: s).length <= 20 := by
 have hst := digL_step (n := m) (by omega)
 have hq : m / 10 = q := by omega
 have hd2 : m % 10 = d := by omega
 rw [hq, hd2] at hst
 have key : digT q ++ (UInt8.ofNat (48 + d) :: s) = digL n := by
  by_cases hs : s = []
  ·subst hs
   rw [<- h2 rfl, hst]
  ·have hm0 : 0 < m := by rcases hz with h | h; exact h; exact absurd h hs
   rw [<- h1 hs]
   unfold digT
   rw [if_neg (show m ≠ 0 by omega), hst]
   unfold digT
   simp
 refine ⟨key, ?_⟩
 have h3 : (digT q ++ (UInt8.ofNat (48 + d) :: s)).length <= 20 := by rw [key]; exact digF_len 20 n
 rw [List.length_append] at h3
 omega
theorem dig_str (d : Nat) (s : List UInt8) : Value.string (⟨#[48 + UInt8.ofNat d]⟩ ++ ⟨s.toArray⟩) = .string ⟨(UInt8.ofNat (48 + d) :: s).toArray⟩ := by
 congr 1
 rw [ByteArray.mk_append_mk]
 congr 1
 apply Array.ext'
 simp
theorem meas_lt {q m d : Nat} {s : List UInt8} (h : m = 10 * q + d) (hz : 0 < m ∨ s = []) : measD (.int .i64 q) (.string ⟨(UInt8.ofNat (48 + d) :: s).toArray⟩) < measD (.int .i64 m) (.string ⟨s.toArray⟩) := by
 have e : (⟨(UInt8.ofNat (48 + d) :: s).toArray⟩ : ByteArray).size ≠ 0 := by show (UInt8.ofNat (48 + d) :: s).toArray.size ≠ 0; simp
 unfold measD
 simp only [if_neg e, intOf]
 rcases hz with hz | rfl
 ·omega
 ·have e2 : (⟨([] : List UInt8).toArray⟩ : ByteArray).size = 0 := rfl
  simp only [e2, if_pos]
  omega
theorem digits_any (n : Nat) (w : World) (hn : n <= 9223372036854775807) :
  Calls Tryz.prog 27 #[.int .i64 n] w fun e w' => e = .returned (.string ⟨(digL n).toArray⟩) /\ Below w.heap.size w w' := by
 go_enter Tryz.func27, Tryz.ntmps27
 go_wp2
 go_loopw [0, 3] (fun t v wr => ∃ (m : Nat) (s : List UInt8), m <= n /\ t = .int .i64 m /\ v = .string ⟨s.toArray⟩ /\ s.length <= 20 /\ Hid (s ≠ [] -> digT m ++ s = digL n) /\ Hid (s = [] -> m = n) /\ Below w.heap.size w wr) (fun t v _ => measD t v)
 case atStart => exact ⟨n, [], Nat.le_refl _, rfl, rfl, by simp, fun h => absurd rfl h, fun _ => rfl, Below.refl _ _⟩
 case round =>
  obtain ⟨m, s, hm, rfl, rfl, hs, h1, h2, hb⟩ := hrel
  have hm0 : (m : Int) <= 9223372036854775807 := by omega
  obtain ⟨d, hd, hd10⟩ : ∃ d : Nat, d < 10 /\ (m : Int) % 10 = (d : Int) := ⟨m % 10, by omega, by omega⟩
  obtain ⟨q, hq, hq10⟩ : ∃ q : Nat, q <= m /\ (m : Int) / 10 = (q : Int) := ⟨m / 10, by omega, by omega⟩
  have hd' : (d : Int) < 10 := by omega
  have hcv := fun t => conv_dig wr d hd t
  have HD : Hid (m = 10 * q + d) := by show _ = _; omega
  by_cases hz : 0 < m
  ·have hz' : (0 : Int) < m := by omega
   go_wp2
   go_roundw
   case rel =>
    obtain ⟨k1, k2⟩ := dig_rel hn hm hd HD.out h1.out h2.out (.inl hz)
    exact ⟨q, UInt8.ofNat (48 + d) :: s, by omega, rfl, dig_str d s, k2, fun _ => k1, (fun h => by cases h), hb.alloc hb.size _⟩
   case measure =>
    rw [dig_str]
    exact meas_lt HD.out (.inl hz)
  ·have hz' : ¬ (0 : Int) < m := by omega
   cases s with
   | nil =>
    go_wp2
    go_roundw
    case rel =>
     obtain ⟨k1, k2⟩ := dig_rel hn hm hd HD.out h1.out h2.out (.inr rfl)
     exact ⟨q, [UInt8.ofNat (48 + d)], by omega, rfl, dig_str d [], k2, fun _ => k1, (fun h => by cases h), hb.alloc hb.size _⟩
    case measure =>
     rw [show Value.string _ = _ from dig_str d []]
     exact meas_lt HD.out (.inr rfl)
   | cons c r =>
    have HR : Hid (digL n = c :: r) := by
     have := h1.out (by simp)
     unfold digT at this
     rw [if_pos (by omega)] at this
     exact this.symm
    clear h1 h2
    go_wp2
    go_ret
    exact ⟨by rw [HR.out]; rfl, hb⟩
def strV (t : List UInt8) : Value := .string ⟨t.toArray⟩
def WordsAt (w : World) (b : Nat) (ws : List (List UInt8)) : Prop := ∀ j t, ws[j]? = some t -> w.cell? ⟨b, j, none⟩ = some (strV t)
theorem joinG_take {g : List UInt8} {ws : List (List UInt8)} {k : Nat} (h : k < ws.length) : joinG g (ws.take (k + 1)) = if k = 0 then ws[k] else joinG g (ws.take k) ++ (g ++ ws[k]) := by
 rw [List.take_succ_eq_append_getElem h, joinG_snoc]
 by_cases hk : k = 0
 ·subst hk; simp
 ·rw [if_neg hk, if_neg]
  intro e
  have : (ws.take k).length = 0 := by rw [e]; rfl
  rw [List.length_take] at this
  omega
theorem joinG_take_le (g : List UInt8) (l : List (List UInt8)) (c : Nat) : (joinG g (l.take c)).length <= (joinG g l).length := by
 have h : (joinG g l).length = (joinG g (l.take c ++ l.drop c)).length := by rw [List.take_append_drop]
 rw [h, joinG_len_append]
 omega
theorem joined_any (b c : Nat) (ws : List (List UInt8)) (g : List UInt8) (w : World) (hbig : ws.length <= 1000000) (hl : (joinG g ws).length <= 1000000) (hc : WordsAt w b ws) :
  Calls Tryz.prog 25 #[.slice (some ⟨b, 0, none⟩) ws.length c, .string ⟨g.toArray⟩] w fun e w' => e = .returned (strV (joinG g ws)) /\ w' = w := by
 go_enter Tryz.func25, Tryz.ntmps25
 go_wp2
 go_loop [5, 6] (fun s i => ∃ k : Nat, k <= ws.length /\ i = .int .i64 k /\ s = strV (joinG g (ws.take k))) (fun _ i => ws.length - (intOf i).toNat)
 case atStart => exact ⟨0, Nat.zero_le _, rfl, rfl⟩
 case round =>
  obtain ⟨k, hk, rfl, rfl⟩ := hrel
  unfold strV
  by_cases hlt : k < ws.length
  ·have hcell : w.cell? ⟨b, k, none⟩ = some (.string ⟨ws[k].toArray⟩) := hc k ws[k] (List.getElem?_eq_getElem hlt)
   have hj := joinG_take (g := g) hlt
   have hle := joinG_take_le g ws (k + 1)
   have hle0 := joinG_take_le g ws k
   clear hc
   by_cases h0 : k = 0
   ·subst h0
    rw [if_pos rfl] at hj
    have HJ : Hid (joinG g (ws.take 1) = ws[0]) := hj
    have e0 : joinG g (ws.take 0) = [] := rfl
    rw [e0]
    rw [hj] at hle
    generalize ws[0] = t at *
    have ht : t.length <= 1000000 := by omega
    clear hj hle hle0 e0
    go_wp2
    go_round
    case rel => exact ⟨1, by omega, rfl, by rw [HJ.out]; exact congrArg Value.string (str_add [] t)⟩
    case measure => simp [intOf]; omega
   ·rw [if_neg h0] at hj
    have HJ : Hid (joinG g (ws.take (k + 1)) = joinG g (ws.take k) ++ (g ++ ws[k])) := hj
    rw [hj] at hle
    generalize ws[k] = t at *
    generalize joinG g (ws.take k) = a at *
    have ht : a.length + (g.length + t.length) <= 1000000 := by rw [List.length_append, List.length_append] at hle; omega
    have h0' : (0 : Int) < k := by omega
    clear hj hle hle0
    go_wp2
    go_round
    case rel => exact ⟨k + 1, by omega, by go_num, by rw [HJ.out, str_add, str_add, List.append_assoc]⟩
    case measure => simp [intOf]; omega
  ·go_wp2
   go_ret
   exact ⟨by rw [List.take_of_length_le (by omega)]; rfl, rfl⟩
theorem Tryz.infoStr : (Tryz.prog.info? 9).map (fun i => (i.zero, i.size, i.bytes)) = some (some (.string ⟨#[]⟩), 1, 16) := by kernel_rfl
def wordsGo : List UInt8 -> List UInt8 -> List (List UInt8)
 | [], cur => if cur = [] then [] else [cur]
 | c :: r, cur => if c = 32 then (if cur = [] then wordsGo r [] else cur :: wordsGo r []) else wordsGo r (cur ++ [c])
def wordsL (l : List UInt8) : List (List UInt8) := wordsGo l []
def mid (l : List UInt8) (a b : Nat) : List UInt8 := (l.drop a).take (b - a)
theorem mid_snoc {l : List UInt8} {a b : Nat} (h : a <= b) (hb : b < l.length) : mid l a (b + 1) = mid l a b ++ [l[b]] := by
 unfold mid
 have e : b + 1 - a = (b - a) + 1 := by omega
 rw [e, List.take_succ_eq_append_getElem (by rw [List.length_drop]; omega)]
 simp [List.getElem_drop, Nat.add_sub_of_le h]
theorem mid_nil {l : List UInt8} {a b : Nat} (hb : b <= l.length) (h : a <= b) : mid l a b = [] ↔ a = b := by
 unfold mid
 constructor
 ·intro e
  have : ((l.drop a).take (b - a)).length = 0 := by rw [e]; rfl
  rw [List.length_take, List.length_drop] at this
  omega
 ·intro e; subst e; simp
theorem extract_midL (s : ByteArray) (a b : Nat) : s.extract a b = ⟨(mid s.data.toList a b).toArray⟩ := by
 unfold mid
 apply ByteArray.ext
 apply Array.toList_inj.1
 simp only [ByteArray.data_extract, Array.toList_extract, List.extract_eq_take_drop]
theorem owns_map {w : World} {base : Nat} {e : TypeId} {v : Value} {n m : Nat} {a b : List Value} (h : w.ownsRow base e 1 v n a) (h1 : n = m) (h2 : a = b) : w.ownsRow base e 1 v m b := by subst h1; subst h2; exact h
theorem cell_one_new (w : World) (v : Value) (t : TypeId) : ∀ j u, [v][j]? = some u -> (w.alloc (.cells #[v] t)).cell? ((⟨w.heap.size, 0, none⟩ : Addr).add j) = some u := by
 intro j u hj
 match j, hj with
 | 0, hj => simp at hj; subst hj; simp [Addr.add]
 | j + 1, hj => simp at hj
theorem words_any (s : ByteArray) (w : World) (hm : s.size <= 1000) :
  Calls Tryz.prog 50 #[.string s] w fun e w' => Below w.heap.size w w' /\ ∃ v, e = .returned v /\ w'.ownsRow w.heap.size 9 1 v (wordsL s.data.toList).length ((wordsL s.data.toList).map strV) := by
 obtain ⟨i0, hi, hz0, hz1, hz2⟩ := info_parts Tryz.infoStr
 have hlen : s.data.toList.length = s.size := len_toList s
 go_enter Tryz.func50, Tryz.ntmps50
 go_wp2
 go_loopw [3, 4, 5] (fun v f i wr => ∃ (acc : List (List UInt8)) (a k : Nat), k <= s.size + 1 /\ acc.length <= k /\ f = .int .i64 a /\ i = .int .i64 k /\ wr.ownsRow w.heap.size 9 1 v acc.length (acc.map strV) /\ Below w.heap.size w wr /\
   Hid (k <= s.size -> a <= k /\ acc ++ wordsGo (s.data.toList.drop k) (mid s.data.toList a k) = wordsL s.data.toList) /\ Hid (s.size < k -> acc = wordsL s.data.toList)) (fun _ _ i _ => s.size + 1 - (intOf i).toNat)
 case atStart => exact ⟨[], 0, 0, by omega, by simp, rfl, rfl, World.ownsRow_nil _ _ _ _, Below.refl _ _, fun _ => ⟨Nat.le_refl _, rfl⟩, fun h => by omega⟩
 case round =>
  obtain ⟨acc, a, k, hk, hacc, rfl, rfl, hown, hbw, H1, H2⟩ := hrel
  have hbs := hbw.size
  by_cases hle : k <= s.size
  ·obtain ⟨hak, he⟩ := H1.out hle
   have hmn := mid_nil (l := s.data.toList) (a := a) (b := k) (by omega) hak
   clear H1 H2
   by_cases hfin : k = s.size
   ·subst hfin
    rw [List.drop_of_length_le (by omega)] at he
    by_cases hlt : a < s.size
    ·have hne : mid s.data.toList a s.size ≠ [] := fun h => by have := hmn.1 h; omega
     have HE : Hid (acc ++ [mid s.data.toList a s.size] = wordsL s.data.toList) := by
      show _ = _; rw [<- he]; unfold wordsGo; rw [if_neg hne]
     have hx : s.extract a s.size = ⟨(mid s.data.toList a s.size).toArray⟩ := extract_midL s a s.size
     clear he hmn hne
     generalize mid s.data.toList a s.size = tm at *
     generalize wordsL s.data.toList = WL at *
     go_wp2_with (first
      | (at_builtin; refine wpList_append_own _ rfl _ _ 45 rfl w.heap.size 9 i0 _ 1 16 Tryz.underlying45 hi hz0 hz1 hz2 rfl (by decide) _ _ _ rfl (hown.alloc _) ⟨_, 0, none⟩ 1 1 [strV tm] rfl rfl (cell_one_new _ _ _) ?h1 ?h63 ?hby ?hbase ?hh
         case h1 => intro u hu; simp at hu; subst hu; rfl
         case h63 => unfold maxLen; omega
         case hby => omega
         case hbase => simp; omega
         intro v' w3 hown' hgrow3 hnil3
         have hb3 : Below w.heap.size w w3 := Below.grown (hbw.alloc hbs _) hgrow3 (by simp; omega) (fun k hk => (hown.lt _ hk).1)
         have X : Aside (w3.ownsRow w.heap.size 9 1 v' (acc.length + 1) (acc.map strV ++ [strV tm]) /\ Below w.heap.size w w3) := ⟨hown', hb3⟩
         clear hown' hgrow3 hnil3 hb3))
     go_roundw
     case rel => exact ⟨acc ++ [tm], s.size + 1, s.size + 1, by omega, by rw [List.length_append, List.length_singleton]; omega, by go_num, by go_num, owns_map X.out.1 (by simp) (by simp), X.out.2, fun h => absurd h (by omega), fun _ => HE.out⟩
     case measure => simp [intOf]
    ·have hae : a = s.size := by omega
     have hn : mid s.data.toList a s.size = [] := hmn.2 hae
     have HE : Hid (acc = wordsL s.data.toList) := by
      show _ = _; rw [<- he, hn]; simp [wordsGo]
     clear he hmn hn
     go_wp2
     go_roundw
     case rel => exact ⟨acc, s.size + 1, s.size + 1, by omega, by omega, by go_num, by go_num, hown, hbw, fun h => absurd h (by omega), fun _ => HE.out⟩
     case measure => simp [intOf]
   ·have hlt : k < s.size := by omega
    have hkl : k < s.data.toList.length := by omega
    have hd := List.drop_eq_getElem_cons hkl
    rw [hd] at he
    have hsn := mid_snoc (l := s.data.toList) (a := a) (b := k) hak hkl
    have hgk : s.data.toList[k] = s[k] := rfl
    rw [hgk] at he hsn
    by_cases hc : s[k].toNat = 32
    ·have hc32 : s[k] = 32 := UInt8.toNat_inj.1 hc
     rw [hc32] at he
     have hm0 : mid s.data.toList (k + 1) (k + 1) = [] := by simp [mid]
     have hci : (s[k].toNat : Int) = 32 := by omega
     by_cases hak2 : a < k
     ·have hne : mid s.data.toList a k ≠ [] := fun h => by have := hmn.1 h; omega
      have HE : Hid (acc ++ [mid s.data.toList a k] ++ wordsGo (s.data.toList.drop (k + 1)) (mid s.data.toList (k + 1) (k + 1)) = wordsL s.data.toList) := by
       show _ = _; rw [<- he, hm0, wordsGo, if_pos rfl, if_neg hne]; simp
      have hx : s.extract a k = ⟨(mid s.data.toList a k).toArray⟩ := extract_midL s a k
      clear he hmn hne hsn hgk hd hm0 hc32 hc
      generalize mid s.data.toList a k = tm at *
      generalize wordsL s.data.toList = WL at *
      go_wp2_with (first
       | (at_builtin; refine wpList_append_own _ rfl _ _ 45 rfl w.heap.size 9 i0 _ 1 16 Tryz.underlying45 hi hz0 hz1 hz2 rfl (by decide) _ _ _ rfl (hown.alloc _) ⟨_, 0, none⟩ 1 1 [strV tm] rfl rfl (cell_one_new _ _ _) ?g1 ?g63 ?gby ?gbase ?gh
          case g1 => intro u hu; simp at hu; subst hu; rfl
          case g63 => unfold maxLen; omega
          case gby => omega
          case gbase => simp; omega
          intro v' w3 hown' hgrow3 hnil3
          have hb3 : Below w.heap.size w w3 := Below.grown (hbw.alloc hbs _) hgrow3 (by simp; omega) (fun k hk => (hown.lt _ hk).1)
          have X : Aside (w3.ownsRow w.heap.size 9 1 v' (acc.length + 1) (acc.map strV ++ [strV tm]) /\ Below w.heap.size w w3) := ⟨hown', hb3⟩
          clear hown' hgrow3 hnil3 hb3))
      go_roundw
      case rel => exact ⟨acc ++ [tm], k + 1, k + 1, by omega, by rw [List.length_append, List.length_singleton]; omega, by go_num, by go_num, owns_map X.out.1 (by simp) (by simp), X.out.2, fun _ => ⟨Nat.le_refl _, HE.out⟩, fun h => absurd h (by omega)⟩
      case measure => simp [intOf]; omega
     ·have hae : a = k := by omega
      have hn : mid s.data.toList a k = [] := hmn.2 hae
      have HE : Hid (acc ++ wordsGo (s.data.toList.drop (k + 1)) (mid s.data.toList (k + 1) (k + 1)) = wordsL s.data.toList) := by
       show _ = _; rw [<- he, hm0, wordsGo, if_pos rfl, hn, if_pos rfl]
      clear he hmn hsn hgk hd hm0 hc32 hc hn
      go_wp2
      go_roundw
      case rel => exact ⟨acc, k + 1, k + 1, by omega, by omega, by go_num, by go_num, hown, hbw, fun _ => ⟨Nat.le_refl _, HE.out⟩, fun h => absurd h (by omega)⟩
      case measure => simp [intOf]; omega
    ·have hc32 : s[k] ≠ 32 := fun h => hc (by rw [h]; rfl)
     have hci : ((s[k].toNat : Int) == 32) = false := by simp; omega
     have HE : Hid (acc ++ wordsGo (s.data.toList.drop (k + 1)) (mid s.data.toList a (k + 1)) = wordsL s.data.toList) := by
      show _ = _; rw [<- he, hsn, wordsGo, if_neg hc32]
     clear he hmn hsn hgk hd hc32 hc
     go_wp2
     go_roundw
     case rel => exact ⟨acc, a, k + 1, by omega, by omega, rfl, by go_num, hown, hbw, fun _ => ⟨by omega, HE.out⟩, fun h => absurd h (by omega)⟩
     case measure => simp [intOf]; omega
  ·have HE := H2.out (by omega)
   clear H1 H2
   go_wp2
   go_ret
   exact ⟨hbw, _, rfl, owns_map hown (by rw [HE]) (by rw [HE])⟩
def treeE (l : List UInt8) : Pr := match lexF l.length l (gapF l.length l 0) with
 | .ok T => (programP T ⟨0, 0, 0⟩).1
 | .error _ => ⟨[], []⟩
theorem treeE_eq (l : List UInt8) : treeE l = treeOf l := by
 unfold treeE treeOf lexAll
 rw [gapF_eq _ _ _ (by omega), lexF_eq _ _ _ (by omega)]
 rfl
theorem below_drewN {B : Nat} {a w : World} (n : Nat) (h : Below B a w) : Below B a (w.drewN n) := ⟨h.os, h.tape, h.output, h.size, h.block⟩
def IntsC (w : World) (v : Value) (zs : List Int) : Prop :=
 ∃ a cap, v = .slice a zs.length cap /\ zs.length <= 1000000 /\
  (zs = [] ∨ ∃ b off, a = some ⟨b, off, none⟩ /\ b < w.heap.size /\ ∀ i, i < zs.length -> w.cell? ⟨b, off + i, none⟩ = some (.int .i64 (zs.getD i 0)))
theorem IntsC.below {w w' : World} {v : Value} {zs : List Int} (h : IntsC w v zs) (hb : Below w.heap.size w w') : IntsC w' v zs := by
 obtain ⟨a, cap, rfl, h1, h3⟩ := h
 refine ⟨a, cap, rfl, h1, ?_⟩
 rcases h3 with h3 | ⟨b, off, rfl, hl, h3⟩
 ·exact .inl h3
 ·refine .inr ⟨b, off, rfl, Nat.lt_of_lt_of_le hl hb.size, fun i hi => ?_⟩
  rw [hb.cell (p := ⟨b, off + i, none⟩) hl]
  exact h3 i hi
theorem IntsC.own {w : World} {base : Nat} {a : Option Addr} {cap : Nat} {zs : List Int} (h : w.ownsRow base 3 1 (.slice a zs.length cap) zs.length (zs.map (.int .i64))) (hl : zs.length <= 1000000) : IntsC w (.slice a zs.length cap) zs := by
 refine ⟨a, cap, rfl, hl, ?_⟩
 by_cases h0 : zs = []
 ·exact .inl h0
 ·obtain ⟨tb, cap2, e, hb, hlt⟩ := h.form (List.length_pos_iff.2 h0)
  cases e
  refine .inr ⟨tb, 0, rfl, hlt, fun i hi => ?_⟩
  have := h.cellAt i (by simpa using hi)
  rw [Nat.zero_add, this, List.getElem?_map, List.getElem?_eq_getElem hi]
  simp [List.getD, hi]
theorem sameInts_any (va vb : Value) (xs ys : List Int) (w : World) (hx : IntsC w va xs) (hy : IntsC w vb ys) :
  Calls Tryz.prog 36 #[va, vb] w fun e w' => e = .returned (.bool (decide (xs = ys))) /\ Below w.heap.size w w' := by
 obtain ⟨a, ca, rfl, hxl, hxc⟩ := hx
 obtain ⟨b, cb, rfl, hyl, hyc⟩ := hy
 have HX : Hid _ := hxc
 have HY : Hid _ := hyc
 clear hxc hyc
 by_cases hlen : xs.length = ys.length
 ·have hl2 : (xs.length : Int) = ys.length := by omega
  go_enter Tryz.func36, Tryz.ntmps36
  go_wp2
  go_loopw [5] (fun i wr => ∃ j : Nat, i = .int .i64 j /\ j <= xs.length /\ Hid (xs.take j = ys.take j) /\ Below w.heap.size w wr) (fun i _ => xs.length - (intOf i).toNat)
  case atStart => exact ⟨0, rfl, Nat.zero_le _, rfl, Below.refl _ _⟩
  case round =>
   obtain ⟨j, rfl, hj, HT, hB⟩ := hrel
   by_cases hlt : j < xs.length
   ·rcases HX.out with h0 | ⟨bx, ox, rfl, hbx, hcx⟩
    ·rw [h0] at hlt; simp at hlt
    rcases HY.out with h0 | ⟨by_, oy, rfl, hby, hcy⟩
    ·rw [h0] at hlen; simp at hlen; rw [hlen] at hlt; simp at hlt
    have hlt2 : j < ys.length := by omega
    have c1 : wr.cell? ⟨bx, ox + j, none⟩ = some (.int .i64 xs[j]) := by
     rw [hB.cell (p := ⟨bx, ox + j, none⟩) hbx, hcx j hlt]; simp [List.getD, hlt]
    have c2 : wr.cell? ⟨by_, oy + j, none⟩ = some (.int .i64 ys[j]) := by
     rw [hB.cell (p := ⟨by_, oy + j, none⟩) hby, hcy j hlt2]; simp [List.getD, hlt2]
    have HS : Hid (xs[j] = ys[j] -> xs.take (j + 1) = ys.take (j + 1)) := fun e => by
     have e1 : xs.take (j + 1) = xs.take j ++ [xs[j]] := by rw [List.take_add_one, List.getElem?_eq_getElem hlt]; rfl
     have e2 : ys.take (j + 1) = ys.take j ++ [ys[j]] := by rw [List.take_add_one, List.getElem?_eq_getElem hlt2]; rfl
     rw [e1, e2, HT.out, e]
    have HN : Hid (xs[j] ≠ ys[j] -> xs ≠ ys) := fun h e => h (by subst e; rfl)
    have hjl : (j : Int) < (xs.length : Int) := by omega
    have hjl2 : (j : Int) < (ys.length : Int) := by omega
    clear hcx hcy
    generalize xs[j] = x at *
    generalize ys[j] = y at *
    by_cases he : x = y
    ·have HU : Hid (xs.take (j + 1) = ys.take (j + 1)) := HS.out he
     clear HS HN
     subst he
     go_wp2
     go_quiet (fail)
     go_wp2
     go_roundw
     case rel => exact ⟨j + 1, by go_num, by omega, HU.out, below_drewN _ hB⟩
     case measure => simp [intOf]; omega
    ·go_wp2
     go_quiet (fail)
     go_wp2
     go_ret
     exact ⟨congrArg (fun b => Ending.returned (.bool b)) (decide_eq_false (HN.out he)).symm, below_drewN _ hB⟩
   ·have ej : j = xs.length := by omega
    subst ej
    have hq : ys.take xs.length = ys := by rw [hlen, List.take_length]
    have HE : Hid (xs = ys) := by
     have := HT.out
     rw [List.take_length, hq] at this
     exact this
    go_wp2
    go_ret
    exact ⟨congrArg (fun b => Ending.returned (.bool b)) (decide_eq_true HE.out).symm, hB⟩
 ·have hl2 : ¬ (xs.length : Int) = ys.length := by omega
  have HN : Hid (xs ≠ ys) := fun e => hlen (by rw [e])
  go_enter Tryz.func36, Tryz.ntmps36
  go_wp2
  go_ret
  exact ⟨congrArg (fun b => Ending.returned (.bool b)) (decide_eq_false HN.out).symm, Below.refl _ _⟩
def OutAt (w : World) (v : Value) (o : Nat × List Int × Nat) : Prop := ∃ u, v = .agg #[.int .i64 (o.1 : Nat), u, .int .i64 (o.2.2 : Nat)] /\ IntsC w u o.2.1
theorem IntsAt.c {w : World} {v : Value} {zs : List Int} (h : IntsAt w v zs) (hl : zs.length <= 1000000) : IntsC w v zs := by
 obtain ⟨a, cap, rfl, _, _, h3⟩ := h
 exact ⟨a, cap, rfl, hl, h3⟩
theorem IntsAt.nil (w : World) : IntsAt w (.slice none 0 0) [] := ⟨none, 0, rfl, by simp, by simp, .inl rfl⟩
theorem ints_new {W : World} {n : Nat} (hn : n = W.heap.size) (zs : List Int) (hl : zs.length <= 1000) (hz : ∀ n ∈ zs, -9223372036854775808 <= n /\ n <= 9223372036854775807) :
  IntsAt (W.alloc (.cells (zs.map (Value.int .i64)).toArray 3)) (.slice (some ⟨n, 0, none⟩) zs.length zs.length) zs := by
 subst hn
 refine ⟨_, _, rfl, by unfold maxLen; omega, hz, .inr ⟨_, 0, rfl, by simp, fun i hi => ?_⟩⟩
 rw [World.cell?_alloc_new W _ _ (0 + i), Nat.zero_add]
 simp [List.getD, hi]
theorem r_one {n m : Int} (h1 : -9223372036854775808 <= n) (h2 : n <= 9223372036854775807) : m ∈ [n] -> -9223372036854775808 <= m /\ m <= 9223372036854775807 := by
 intro h
 simp at h
 subst h
 exact ⟨h1, h2⟩
theorem below_one {W w2 : World} {A : Obj} (h : Below (W.alloc A).heap.size (W.alloc A) w2) : Below W.heap.size W w2 :=
 ((Below.refl _ _).alloc (Nat.le_refl _) _).trans (h.mono (by simp))
theorem below_two {W w2 : World} {A B : Obj} (h : Below ((W.alloc A).alloc B).heap.size ((W.alloc A).alloc B) w2) : Below W.heap.size W w2 :=
 below_one (below_one h)
theorem kept_one {W w2 : World} {xs : Array Value} {t : TypeId} (h : Below (W.alloc (.cells xs t)).heap.size (W.alloc (.cells xs t)) w2) (k : Nat) : w2.cell? ⟨W.heap.size, k, none⟩ = xs[k]? := by
 rw [h.cell (p := ⟨W.heap.size, k, none⟩) (by simp)]
 exact World.cell?_alloc_new W _ _ k
theorem kept_two {W w2 : World} {xs : Array Value} {t : TypeId} {B : Obj} (h : Below ((W.alloc (.cells xs t)).alloc B).heap.size ((W.alloc (.cells xs t)).alloc B) w2) (k : Nat) : w2.cell? ⟨W.heap.size, k, none⟩ = xs[k]? :=
 kept_one (below_one h) k
theorem up_two (W : World) (A B : Obj) : Below W.heap.size W ((W.alloc A).alloc B) := ((Below.refl _ _).alloc (Nat.le_refl _) _).alloc (by simp) _
theorem two_cells {w w3 : World} {xs ys : Array Value} {s t : TypeId} (h : Below ((w.alloc (.cells xs s)).alloc (.cells ys t)).heap.size ((w.alloc (.cells xs s)).alloc (.cells ys t)) w3) :
  (∀ j u, xs[j]? = some u -> w3.cell? ⟨w.heap.size, j, none⟩ = some u) /\ (∀ j u, ys[j]? = some u -> w3.cell? ⟨w.heap.size + 1, j, none⟩ = some u) /\ (∀ j, w3.frozen? ⟨w.heap.size, j, none⟩ = false) /\ (∀ j, w3.frozen? ⟨w.heap.size + 1, j, none⟩ = false) := by
 have b1 : Below (w.alloc (.cells xs s)).heap.size (w.alloc (.cells xs s)) ((w.alloc (.cells xs s)).alloc (.cells ys t)) := (Below.refl _ _).alloc (Nat.le_refl _) _
 have hs : (w.alloc (.cells xs s)).heap.size = w.heap.size + 1 := by simp
 have c2 := World.cell?_alloc_new (w.alloc (.cells xs s)) ys t
 have f2 := World.frozen?_alloc_new (w.alloc (.cells xs s)) ys t
 rw [hs] at c2 f2
 refine ⟨fun j u hj => ?_, fun j u hj => ?_, fun j => ?_, fun j => ?_⟩
 ·rw [h.cell (p := ⟨w.heap.size, j, none⟩) (by simp; omega), b1.cell (p := ⟨w.heap.size, j, none⟩) (by simp), World.cell?_alloc_new]; exact hj
 ·rw [h.cell (p := ⟨w.heap.size + 1, j, none⟩) (by simp), c2]; exact hj
 ·rw [h.frozen (p := ⟨w.heap.size, j, none⟩) (by simp; omega), b1.frozen (p := ⟨w.heap.size, j, none⟩) (by simp)]; exact World.frozen?_alloc_new _ _ _ _
 ·rw [h.frozen (p := ⟨w.heap.size + 1, j, none⟩) (by simp)]; exact f2 j
theorem row_base {w : World} {base base' : Nat} {e : TypeId} {size : Nat} {v : Value} {n : Nat} {xs : List Value} (h : w.ownsRow base e size v n xs) (hb : base' <= base) : w.ownsRow base' e size v n xs := by
 obtain ⟨h1, h2⟩ := h
 refine ⟨h1, ?_⟩
 rcases h2 with h2 | ⟨g, cap, cur, hv, hg, r⟩
 ·exact .inl h2
 ·exact .inr ⟨g, cap, cur, hv, Nat.le_trans hb hg, r⟩
theorem below_setR {b k o : Nat} {v : Value} {w w' : World} (h : Below b w w') (hk : b <= k) : Below b w (w'.setCell ⟨k, o, none⟩ v) :=
 ⟨h.os, h.tape, h.output, Nat.le_trans h.size (by simp [World.setCell]), fun i hi => by rw [Below.heap_setCell _ _ _ _ (show i ≠ k by omega)]; exact h.block i hi⟩
theorem below_two2 {W w2 : World} {A B : Obj} (h : Below ((W.alloc A).alloc B).heap.size ((W.alloc A).alloc B) w2) : Below W.heap.size W w2 :=
 (((Below.refl _ _).alloc (Nat.le_refl _) _).alloc (by simp) _).trans (h.mono (by simp; omega))
section
variable {w w' w1 : World} {rb sl : Nat} {vj v vj' v' : Value} {Js Js' : List JM} {hp hp' : List Nat} {J : JM}
theorem clone_any {vo : Value} {xs : List Int} (h : w.ownsRow 0 3 1 vo xs.length (xs.map (.int .i64))) (hl : xs.length <= 60) :
  Calls Tryz.prog 81 #[vo] w fun e w' => ∃ oa oc, e = .returned (.slice oa xs.length oc) /\ w'.ownsRow w.heap.size 3 1 (.slice oa xs.length oc) xs.length (xs.map (.int .i64)) /\ Below w.heap.size w w' := by
 obtain ⟨i0, hi, hz0, hz1, hz2⟩ := info_parts Tryz.infoIntC
 have q22 : ∀ (w : World) (a : Option Addr) (n c n' c' : Nat), (binOp .eql 23 (.slice a n c) (.slice none n' c')).run Tryz.prog w = .ok (.bool a.isNone) w := fun w a n c n' c' => Lib.run_eql_slice_nil w _ _ a n c n' c' Tryz.underlying23
 rcases h.2 with ⟨h1, h2⟩ | ⟨g, cap, cur, hv, _⟩
 ·have hx : xs = [] := List.eq_nil_of_length_eq_zero h2
  subst hx
  rw [h1]
  clear h
  go_enter Tryz.func81, Tryz.ntmps81
  go_wp2
  go_ret
  exact ⟨none, 0, rfl, World.ownsRow_nil _ _ _ _, Below.refl _ _⟩
 ·subst hv
  have HC : Hid (∀ A, ∀ j u, (xs.map (Value.int .i64))[j]? = some u -> (w.alloc A).cell? ((⟨g, 0, none⟩ : Addr).add j) = some u) := fun A j u hj => by
   have := (h.alloc A).cells (g := g) rfl j u hj
   exact this
  clear h
  go_enter Tryz.func81, Tryz.ntmps81
  go_wp2_with (at_builtin; go_loud (refine wpList_append_own2 rfl _ _ 23 rfl w.heap.size 3 i0 _ 1 8 Tryz.underlying23 hi hz0 hz1 hz2 rfl (by decide) _ _ _ rfl (World.ownsRow_made w #[] 0 (Nat.le_refl _) (Nat.zero_le _) rfl) ⟨g, 0, none⟩ xs.length cap (xs.map (Value.int .i64)) rfl (by simp) (HC.out _) (by intro u hu; obtain ⟨x, _, rfl⟩ := List.mem_map.1 hu; rfl) (by unfold maxLen; omega) (by omega) (by simp) ?_); go_loud (intro v' w5 hown5 hg5 hn5; have hown6 : w5.ownsRow w.heap.size 3 1 v' xs.length (xs.map (Value.int .i64)) := (by rw [Nat.zero_add] at hown5; exact hown5); have HN5 : Hid (w5.ownsRow w.heap.size 3 1 v' xs.length (xs.map (Value.int .i64)) /\ Below w.heap.size w w5) := ⟨hown6, ((Below.refl _ w).alloc (Nat.le_refl _) _).trans ⟨hg5.os, hg5.tape, hg5.output, hg5.size, fun k hk => hg5.block k (by simp; omega) (fun e => by have e2 : k = w.heap.size := Option.some.inj e; omega)⟩⟩; obtain ⟨oa, oc, hvv⟩ := owned_slice HN5.out.1; subst hvv))
  go_ret
  exact ⟨oa, oc, rfl, HN5.out.1, HN5.out.2⟩
theorem JobAt.outs (h : JobAt w J) : w.ownsRow 0 3 1 J.ov J.m.out.length (J.m.out.map (.int .i64)) := by
 rcases h.ouv with e | ⟨e1, e2⟩
 ·rw [e]; exact h.mc.rows.ou
 ·rw [e1, e2]; exact World.ownsRow_nil _ _ _ _
theorem outcome_any (h : JobAt w J) : Calls Tryz.prog 63 #[.pointer (some ⟨J.jb, 0, none⟩)] w fun e w' => ∃ oa oc, e = .returned (.agg #[.int .i64 ((J.m.over.getD 0 : Nat) : Int), .slice oa J.m.out.length oc, .int .i64 (J.m.used : Nat)]) /\ J.m.out.length <= oc /\ Hid (w'.ownsRow w.heap.size 3 1 (.slice oa J.m.out.length oc) J.m.out.length (J.m.out.map (.int .i64))) /\ Below w.heap.size w w' := by
 have c1 := h.cel 1 _ rfl
 have c2 := h.cel 2 _ rfl
 have c3 := h.cel 3 _ rfl
 have hl60 := h.mc.rows.o60
 obtain ⟨va, vc, hv, _⟩ := owned_row h.outs
 rw [hv] at c2
 have hjl := h.lt
 have HC : Hid (∀ W, Below w.heap.size w W -> Calls Tryz.prog 81 #[.slice va J.m.out.length vc] W fun e w' => ∃ oa oc, e = .returned (.slice oa J.m.out.length oc) /\ J.m.out.length <= oc /\ Hid (w'.ownsRow W.heap.size 3 1 (.slice oa J.m.out.length oc) J.m.out.length (J.m.out.map (.int .i64))) /\ Below W.heap.size W w') := fun W hb => by
  have := clone_any (w := W) (vo := J.ov) (xs := J.m.out) (h.below hb).outs hl60
  rw [hv] at this
  refine this.mono ?_
  rintro e w' ⟨oa, oc, rfl, h1, h2⟩
  obtain ⟨_, _, e2, h3⟩ := owned_row h1
  cases e2
  exact ⟨oa, oc, rfl, h3, h1, h2⟩
 generalize hn : J.m.out.length = n at *
 clear h hv
 go_enter Tryz.func63, Tryz.ntmps63
 go_wp2_with (go_at_call 81; go_loud (refine (HC.out _ (((Below.refl _ _).alloc (Nat.le_refl _) _).alloc (by simp) _)).mono ?_); rintro e w3 ⟨oa, oc, rfl, hoc, HW, hb3⟩; obtain ⟨t1, t2, t3, t4⟩ := two_cells hb3; have r0 := t1 0 _ rfl; have r1 := t1 1 _ rfl; have r2 := t1 2 _ rfl; have s0 := t2 0 _ rfl; have s1 := t2 1 _ rfl; have s2 := t2 2 _ rfl; have f0 := t3 0; have f1 := t3 1; have f2 := t3 2; have f4 := t4 1; clear t1 t2 t3 t4)
 refine bodyPost_ret (v := .agg #[.int .i64 ((J.m.over.getD 0 : Nat) : Int), .slice oa n oc, .int .i64 (J.m.used : Nat)]) (by simp [results, Tryz.results63, go_sem, r0, r1, r2]) rfl ?_
 go_light
 refine ⟨oa, oc, rfl, hoc, row_base (ownsRow_setCell_below (ownsRow_setCell_below (ownsRow_setCell_below (ownsRow_setCell_below HW.out (by simp) _) (by simp; omega) _) (by simp; omega) _) (by simp; omega) _) (by simp; omega), below_setR (below_setR (below_setR (below_setR (below_two2 hb3) (by omega)) (by omega)) (by omega)) (by omega)⟩
theorem find_any (h : RoomAt w rb sl vj v Js hp) (hJl : Js.length <= 5) {i : Nat} (hi : Js[i]? = some J) : Calls Tryz.prog 61 #[.pointer (some ⟨rb, 0, none⟩), .int .i64 ((i : Int) + 1)] w fun e w' => e = .returned (.pointer (some ⟨J.jb, 0, none⟩)) /\ w' = w := by
 have hil : i < Js.length := (List.getElem?_eq_some_iff.1 hi).1
 obtain ⟨g, cap, hv, _, _⟩ := h.rj.form (by omega)
 have c1 := h.c1
 rw [hv] at c1
 have gi : w.cell? ⟨g, i, none⟩ = some (.pointer (some ⟨J.jb, 0, none⟩)) := by
  have := h.rj
  rw [hv] at this
  rw [this.cellAt i (by omega), List.getElem?_map, hi]; rfl
 clear h hv hi
 generalize Js.length = n at *
 have e1 : ¬ (i : Int) + 1 < 1 := by omega
 have e2 : ¬ (i : Int) + 1 > (n : Int) := by omega
 have e3 : (i : Int) < (n : Int) := by omega
 go_enter Tryz.func61, Tryz.ntmps61
 go_wp2
 go_ret
 exact ⟨rfl, rfl⟩
end
theorem one_cells {w w3 : World} {xs : Array Value} {s : TypeId} (h : Below (w.alloc (.cells xs s)).heap.size (w.alloc (.cells xs s)) w3) :
  (∀ j u, xs[j]? = some u -> w3.cell? ⟨w.heap.size, j, none⟩ = some u) /\ (∀ j, w3.frozen? ⟨w.heap.size, j, none⟩ = false) /\ Below w.heap.size w w3 := by
 refine ⟨fun j u hj => ?_, fun j => ?_, ((Below.refl _ _).alloc (Nat.le_refl _) _).trans (h.mono (by simp))⟩
 ·rw [h.cell (p := ⟨w.heap.size, j, none⟩) (by simp), World.cell?_alloc_new]; exact hj
 ·rw [h.frozen (p := ⟨w.heap.size, j, none⟩) (by simp)]; exact World.frozen?_alloc_new _ _ _ _
section
variable {w w' w1 : World} {rb sl : Nat} {vj v vj' v' : Value} {Js Js' : List JM} {hp hp' : List Nat} {J : JM}
theorem roomJob_own (h : RoomAt w rb sl vj v Js hp) (hJl : Js.length <= 5) {i : Nat} (hi : Js[i]? = some J) : Calls Tryz.prog 35 #[.pointer (some ⟨rb, 0, none⟩), .int .i64 ((i : Int) + 1)] w fun e w' => ∃ oa oc, e = .returned (.tuple #[.agg #[.int .i64 ((J.m.over.getD 0 : Nat) : Int), .slice oa J.m.out.length oc, .int .i64 (J.m.used : Nat)], .int .i64 (if J.done then 1 else 0), .int .i64 0]) /\ J.m.out.length <= oc /\ Hid (w'.ownsRow w.heap.size 3 1 (.slice oa J.m.out.length oc) J.m.out.length (J.m.out.map (.int .i64))) /\ Below w.heap.size w w' := by
 have hJm : J ∈ Js := List.mem_of_getElem? hi
 have HA : Hid (∀ A, RoomAt (w.alloc A) rb sl vj v Js hp) := fun A => h.below ((Below.refl _ _).alloc (Nat.le_refl _) _)
 have HF : Hid (∀ A, Calls Tryz.prog 61 #[.pointer (some ⟨rb, 0, none⟩), .int .i64 ((i : Int) + 1)] (w.alloc A) fun e w' => e = .returned (.pointer (some ⟨J.jb, 0, none⟩)) /\ w' = w.alloc A) := fun A => find_any (HA.out A) hJl hi
 have HO : Hid (∀ A, Calls Tryz.prog 63 #[.pointer (some ⟨J.jb, 0, none⟩)] (w.alloc A) fun e w' => ∃ oa oc, e = .returned (.agg #[.int .i64 ((J.m.over.getD 0 : Nat) : Int), .slice oa J.m.out.length oc, .int .i64 (J.m.used : Nat)]) /\ J.m.out.length <= oc /\ Hid (w'.ownsRow (w.alloc A).heap.size 3 1 (.slice oa J.m.out.length oc) J.m.out.length (J.m.out.map (.int .i64))) /\ Below (w.alloc A).heap.size (w.alloc A) w') := fun A => outcome_any ((HA.out A).job J hJm)
 have HC4 : Hid (∀ A, (w.alloc A).cell? ⟨J.jb, 4, none⟩ = some (.pointer (if J.done then none else some ⟨J.xb, 0, none⟩))) := fun A => ((HA.out A).job J hJm).cel 4 _ rfl
 have HUP : Hid (∀ (w4 : World) (oa : Option Addr) (oc : Nat) (A : Obj), w4.ownsRow (w.alloc A).heap.size 3 1 (.slice oa J.m.out.length oc) J.m.out.length (J.m.out.map (.int .i64)) -> w4.ownsRow w.heap.size 3 1 (.slice oa J.m.out.length oc) J.m.out.length (J.m.out.map (.int .i64))) := fun w4 oa oc A hh => row_base hh (by simp)
 clear h hi
 generalize J.m.out.length = n at *
 cases hd : J.done with
 | true =>
  rw [hd] at HC4
  go_enter Tryz.func35, Tryz.ntmps35
  go_wp2_with (first
   | (go_at_call 61; refine (HF.out _).mono ?_; rintro e w2 ⟨rfl, h9⟩; cases h9)
   | (go_at_call 62; refine (jover_any (v := none) (HC4.out _)).mono ?_; rintro e w2 ⟨rfl, h9⟩; cases h9)
   | (go_at_call 63; refine (HO.out _).mono ?_; rintro e w3 ⟨oa, oc, rfl, hoc, HU, hb3⟩; obtain ⟨t1, t2, hb4⟩ := one_cells hb3; have r0 := t1 0 _ rfl; have r1 := t1 1 _ rfl; have r2 := t1 2 _ rfl; have f0 := t2 0; have f1 := t2 1; have f2 := t2 2; clear t1 t2))
  refine bodyPost_ret (v := .tuple #[.agg #[.int .i64 ((J.m.over.getD 0 : Nat) : Int), .slice oa n oc, .int .i64 (J.m.used : Nat)], .int .i64 1, .int .i64 0]) (by simp [results, Tryz.results35, go_sem, r0, r1, r2]) rfl ?_
  go_light
  refine ⟨oa, oc, rfl, hoc, HUP.out _ oa oc _ (ownsRow_setCell_below (ownsRow_setCell_below (ownsRow_setCell_below HU.out (by simp) _) (by simp) _) (by simp) _), below_setR (below_setR (below_setR hb4 (Nat.le_refl _)) (Nat.le_refl _)) (Nat.le_refl _)⟩
 | false =>
  rw [hd] at HC4
  go_enter Tryz.func35, Tryz.ntmps35
  go_wp2_with (first
   | (go_at_call 61; refine (HF.out _).mono ?_; rintro e w2 ⟨rfl, h9⟩; cases h9)
   | (go_at_call 62; refine (jover_any (v := some ⟨J.xb, 0, none⟩) (HC4.out _)).mono ?_; rintro e w2 ⟨rfl, h9⟩; cases h9)
   | (go_at_call 63; refine (HO.out _).mono ?_; rintro e w3 ⟨oa, oc, rfl, hoc, HU, hb3⟩; obtain ⟨t1, t2, hb4⟩ := one_cells hb3; have r0 := t1 0 _ rfl; have r1 := t1 1 _ rfl; have r2 := t1 2 _ rfl; have f0 := t2 0; have f1 := t2 1; have f2 := t2 2; clear t1 t2))
  refine bodyPost_ret (v := .tuple #[.agg #[.int .i64 ((J.m.over.getD 0 : Nat) : Int), .slice oa n oc, .int .i64 (J.m.used : Nat)], .int .i64 0, .int .i64 0]) (by simp [results, Tryz.results35, go_sem, r0, r1, r2]) rfl ?_
  go_light
  refine ⟨oa, oc, rfl, hoc, HUP.out _ oa oc _ (ownsRow_setCell_below (ownsRow_setCell_below (ownsRow_setCell_below HU.out (by simp) _) (by simp) _) (by simp) _), below_setR (below_setR (below_setR hb4 (Nat.le_refl _)) (Nat.le_refl _)) (Nat.le_refl _)⟩
end
end Go.Proofs.YtklobognaldjpaaGreat
