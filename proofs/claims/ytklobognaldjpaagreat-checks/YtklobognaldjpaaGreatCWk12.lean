/- The reference's walk through a statement, at every depth. -/
import Derived.Test.YtklobognaldjpaaGreatCWk11
namespace Go.Proofs.YtklobognaldjpaaGreat
open Go.RowKit

section
variable {wb tb cap : Nat} {T : List Tok} {m : Option Nm} {w : World} {s : PS} {d : Int} {k : Nat}

set_option maxRecDepth 100000 in
set_option maxHeartbeats 1000000 in
theorem st_dead (h : RW wb tb cap T m w s) (hg : Good T s) (hc : s.code ≠ 0) (i : Int) (live : Bool) :
    Calls Tryz.prog 151 #[.pointer (some ⟨wb, 0, none⟩), .int .i64 i, .int .i64 d, .bool live] w (WSt wb tb cap T m s w) := by
  have hfa := h.fault
  have hz' : ((s.code : Int) != 0) = true := by simp; omega
  have hE := refEnd_any h hg
  have HA : Hid (∀ j, At s j) := fun j h => absurd h hc
  clear hc
  go_enter Tryz.func151, Tryz.ntmps151
  go_wp2_with (go_at_call 126; refine hE.mono ?_; rintro e w1 ⟨rfl, h1⟩; obtain rfl := h1.symm; clear h1)
  go_ret
  exact ⟨_, rfl, HA.out _, h, Par.refl _ _⟩

set_option maxRecDepth 100000 in
set_option maxHeartbeats 1000000 in
theorem st_deep (h : RW wb tb cap T m w s) (hg : Good T s) (hc : s.code = 0) (hd : d = 15) (live : Bool) :
    Calls Tryz.prog 151 #[.pointer (some ⟨wb, 0, none⟩), .int .i64 s.next, .int .i64 d, .bool live] w (WSt wb tb cap T m (fails T 5 s) w) := by
  have hfa := h.fault
  rw [hc] at hfa
  have hW := wrong_any h hg 5 s.next (fun _ => rfl)
  subst hd
  go_enter Tryz.func151, Tryz.ntmps151
  go_wp2_with (go_at_call 98; refine hW.mono ?_; rintro e w1 ⟨rfl, hP1, hk1⟩)
  go_ret
  exact ⟨_, rfl, at_self _, hP1, hk1⟩

set_option maxRecDepth 1000000 in
set_option maxHeartbeats 1000000 in
theorem st_name (hT : Toks T) (hX : ROK wb tb cap T m 177 (d + 1) (exprN T (mdE m) k)) (hfx : FxA T)
    (hd0 : 0 ≤ d) (hd1 : d ≤ 14) (h : RW wb tb cap T m w s) (hg : Good T s) (hc : s.code = 0) (live : Bool) (hm : kindIs T .name s = true) :
    Calls Tryz.prog 151 #[.pointer (some ⟨wb, 0, none⟩), .int .i64 s.next, .int .i64 d, .bool live] w (WSt wb tb cap T m (stmtN T (mdE m) (k + 1) s).2 w) := by
  have hfa := h.fault
  rw [hc] at hfa
  have hsz := h.size
  have ht := h.toks
  have hg' : s.next < T.length := hg
  have hgi : (s.next : Int) < T.length := by omega
  obtain ⟨c0, _, _, _⟩ := h.curCells hg
  have e2 : (cur T s).kind = .name := by simpa [kindIs] using hm
  rw [e2] at c0
  simp only [TK.r] at c0
  have HE : Hid ((stmtN T (mdE m) (k + 1) s).2 = (namedStN T (mdE m) (exprN T (mdE m) k) s).2) := by show _ = _; rw [stmtN, if_pos hm]
  have hC := named_any hT hX (mon_exprN hT (mdE m) k) (sm_exprN hT (mdE m) k) hfx hd0 hd1 h hg hc hm live
  clear hm e2
  go_enter Tryz.func151, Tryz.ntmps151
  go_wp2_with (go_at_call 173; refine hC.mono ?_; rintro e w1 ⟨j1, rfl, ha1, hP1, hk1⟩)
  go_ret
  unfold WSt
  rw [HE.out]
  exact ⟨_, rfl, ha1, hP1, hk1⟩

set_option maxRecDepth 1000000 in
set_option maxHeartbeats 1000000 in
theorem st_if (hT : Toks T) (hX : ROK wb tb cap T m 177 (d + 1) (exprN T (mdE m) k)) (hG : RSK wb tb cap T m 151 (d + 1) (fun s => (stmtN T (mdE m) k s).2)) (hfx : FxA T)
    (hd0 : 0 ≤ d) (hd1 : d ≤ 14) (h : RW wb tb cap T m w s) (hg : Good T s) (hc : s.code = 0) (live : Bool) (hm : kindIs T .name s = false) (yif : sees T (bs [105, 102]) s = true) :
    Calls Tryz.prog 151 #[.pointer (some ⟨wb, 0, none⟩), .int .i64 s.next, .int .i64 d, .bool live] w (WSt wb tb cap T m (stmtN T (mdE m) (k + 1) s).2 w) := by
  have hfa := h.fault
  rw [hc] at hfa
  have hsz := h.size
  have ht := h.toks
  have hg' : s.next < T.length := hg
  have hgi : (s.next : Int) < T.length := by omega
  have hs : Stk T s := fun h => absurd hc h
  have hia : At (adv s) ((s.next : Int) + 1) := fun _ => by show _ = ((s.next + 1 : Nat) : Int); omega
  have hsa : Stk T (adv s) := stk_adv hc
  obtain ⟨c0, _, _, _⟩ := h.curCells hg
  have h1' : ((cur T s).kind.r == 1) = false := by rw [r_one]; simpa [kindIs] using hm
  generalize (cur T s).kind.r = kr at *
  have iif := is_any hT h hg hs s.next (at_self _) (bs [105, 102]) (hfx _ (by decide))
  rw [yif] at iif
  have iwhile := is_any hT h hg hs s.next (at_self _) (bs [119, 104, 105, 108, 101]) (hfx _ (by decide))
  rw [sees_one (b := [119, 104, 105, 108, 101]) yif (by decide)] at iwhile
  have ibegin := is_any hT h hg hs s.next (at_self _) (bs [98, 101, 103, 105, 110]) (hfx _ (by decide))
  rw [sees_one (b := [98, 101, 103, 105, 110]) yif (by decide)] at ibegin
  have iwrite := is_any hT h hg hs s.next (at_self _) (bs [119, 114, 105, 116, 101]) (hfx _ (by decide))
  rw [sees_one (b := [119, 114, 105, 116, 101]) yif (by decide)] at iwrite
  have iread := is_any hT h hg hs s.next (at_self _) (bs [114, 101, 97, 100]) (hfx _ (by decide))
  rw [sees_one (b := [114, 101, 97, 100]) yif (by decide)] at iread
  have HE : Hid ((stmtN T (mdE m) (k + 1) s).2 = (choiceSt T (exprN T (mdE m) k) (stmtN T (mdE m) k) (adv s)).2) := by show _ = _; rw [stmtN, if_neg (by rw [hm]; simp), if_pos yif]
  have hga := good_adv hT hg yif (bs_ne _ (by simp))
  have hC := iffs_any hT hX (mon_exprN hT (mdE m) k) (sm_exprN hT (mdE m) k) hG (mon_stmtN hT (mdE m) k) (sm_stmtN hT (mdE m) k) hfx hd0 hd1 h hc hga live
  clear hm yif
  go_enter Tryz.func151, Tryz.ntmps151
  go_wp2_with (first
    | (go_at_call 94; have _q := mk4; refine iread.mono ?_; rintro e w1 ⟨rfl, h1⟩; obtain rfl := h1.symm; clear h1)
    | (go_at_call 94; have _q := mk3; refine iwrite.mono ?_; rintro e w1 ⟨rfl, h1⟩; obtain rfl := h1.symm; clear h1; have mk4 : Hid True := trivial)
    | (go_at_call 94; have _q := mk2; refine ibegin.mono ?_; rintro e w1 ⟨rfl, h1⟩; obtain rfl := h1.symm; clear h1; have mk3 : Hid True := trivial)
    | (go_at_call 94; have _q := mk1; refine iwhile.mono ?_; rintro e w1 ⟨rfl, h1⟩; obtain rfl := h1.symm; clear h1; have mk2 : Hid True := trivial)
    | (go_at_call 94; refine iif.mono ?_; rintro e w1 ⟨rfl, h1⟩; obtain rfl := h1.symm; clear h1; have mk1 : Hid True := trivial)
    | (go_at_call 174; refine hC.mono ?_; rintro e w2 ⟨j2, rfl, ha2, hP2, hk2⟩))
  go_ret
  unfold WSt
  rw [HE.out]
  exact ⟨_, rfl, ha2, hP2, hk2⟩

set_option maxRecDepth 1000000 in
set_option maxHeartbeats 1000000 in
theorem st_while (hT : Toks T) (hX : ROK wb tb cap T m 177 (d + 1) (exprN T (mdE m) k)) (hG : RSK wb tb cap T m 151 (d + 1) (fun s => (stmtN T (mdE m) k s).2)) (hfx : FxA T)
    (hd0 : 0 ≤ d) (hd1 : d ≤ 14) (h : RW wb tb cap T m w s) (hg : Good T s) (hc : s.code = 0) (live : Bool) (hm : kindIs T .name s = false) (nif : sees T (bs [105, 102]) s = false) (ywhile : sees T (bs [119, 104, 105, 108, 101]) s = true) :
    Calls Tryz.prog 151 #[.pointer (some ⟨wb, 0, none⟩), .int .i64 s.next, .int .i64 d, .bool live] w (WSt wb tb cap T m (stmtN T (mdE m) (k + 1) s).2 w) := by
  have hfa := h.fault
  rw [hc] at hfa
  have hsz := h.size
  have ht := h.toks
  have hg' : s.next < T.length := hg
  have hgi : (s.next : Int) < T.length := by omega
  have hs : Stk T s := fun h => absurd hc h
  have hia : At (adv s) ((s.next : Int) + 1) := fun _ => by show _ = ((s.next + 1 : Nat) : Int); omega
  have hsa : Stk T (adv s) := stk_adv hc
  obtain ⟨c0, _, _, _⟩ := h.curCells hg
  have h1' : ((cur T s).kind.r == 1) = false := by rw [r_one]; simpa [kindIs] using hm
  generalize (cur T s).kind.r = kr at *
  have iif := is_any hT h hg hs s.next (at_self _) (bs [105, 102]) (hfx _ (by decide))
  rw [nif] at iif
  have iwhile := is_any hT h hg hs s.next (at_self _) (bs [119, 104, 105, 108, 101]) (hfx _ (by decide))
  rw [ywhile] at iwhile
  have ibegin := is_any hT h hg hs s.next (at_self _) (bs [98, 101, 103, 105, 110]) (hfx _ (by decide))
  rw [sees_one (b := [98, 101, 103, 105, 110]) ywhile (by decide)] at ibegin
  have iwrite := is_any hT h hg hs s.next (at_self _) (bs [119, 114, 105, 116, 101]) (hfx _ (by decide))
  rw [sees_one (b := [119, 114, 105, 116, 101]) ywhile (by decide)] at iwrite
  have iread := is_any hT h hg hs s.next (at_self _) (bs [114, 101, 97, 100]) (hfx _ (by decide))
  rw [sees_one (b := [114, 101, 97, 100]) ywhile (by decide)] at iread
  have HE : Hid ((stmtN T (mdE m) (k + 1) s).2 = (whileSt T (exprN T (mdE m) k) (stmtN T (mdE m) k) (adv s)).2) := by show _ = _; rw [stmtN, if_neg (by rw [hm]; simp), if_neg (by rw [nif]; simp), if_pos ywhile]
  have hga := good_adv hT hg ywhile (bs_ne _ (by simp))
  have hC := whiles_any hT hX (mon_exprN hT (mdE m) k) (sm_exprN hT (mdE m) k) hG hfx hd0 hd1 h hc hga live
  clear hm nif ywhile
  go_enter Tryz.func151, Tryz.ntmps151
  go_wp2_with (first
    | (go_at_call 94; have _q := mk4; refine iread.mono ?_; rintro e w1 ⟨rfl, h1⟩; obtain rfl := h1.symm; clear h1)
    | (go_at_call 94; have _q := mk3; refine iwrite.mono ?_; rintro e w1 ⟨rfl, h1⟩; obtain rfl := h1.symm; clear h1; have mk4 : Hid True := trivial)
    | (go_at_call 94; have _q := mk2; refine ibegin.mono ?_; rintro e w1 ⟨rfl, h1⟩; obtain rfl := h1.symm; clear h1; have mk3 : Hid True := trivial)
    | (go_at_call 94; have _q := mk1; refine iwhile.mono ?_; rintro e w1 ⟨rfl, h1⟩; obtain rfl := h1.symm; clear h1; have mk2 : Hid True := trivial)
    | (go_at_call 94; refine iif.mono ?_; rintro e w1 ⟨rfl, h1⟩; obtain rfl := h1.symm; clear h1; have mk1 : Hid True := trivial)
    | (go_at_call 175; refine hC.mono ?_; rintro e w2 ⟨j2, rfl, ha2, hP2, hk2⟩))
  go_ret
  unfold WSt
  rw [HE.out]
  exact ⟨_, rfl, ha2, hP2, hk2⟩

set_option maxRecDepth 1000000 in
set_option maxHeartbeats 1000000 in
theorem st_begin (hT : Toks T) (hG : RSK wb tb cap T m 151 (d + 1) (fun s => (stmtN T (mdE m) k s).2)) (hfx : FxA T)
    (hd0 : 0 ≤ d) (hd1 : d ≤ 14) (h : RW wb tb cap T m w s) (hg : Good T s) (hc : s.code = 0) (live : Bool) (hm : kindIs T .name s = false) (nif : sees T (bs [105, 102]) s = false) (nwhile : sees T (bs [119, 104, 105, 108, 101]) s = false) (ybegin : sees T (bs [98, 101, 103, 105, 110]) s = true) :
    Calls Tryz.prog 151 #[.pointer (some ⟨wb, 0, none⟩), .int .i64 s.next, .int .i64 d, .bool live] w (WSt wb tb cap T m (stmtN T (mdE m) (k + 1) s).2 w) := by
  have hfa := h.fault
  rw [hc] at hfa
  have hsz := h.size
  have ht := h.toks
  have hg' : s.next < T.length := hg
  have hgi : (s.next : Int) < T.length := by omega
  have hs : Stk T s := fun h => absurd hc h
  have hia : At (adv s) ((s.next : Int) + 1) := fun _ => by show _ = ((s.next + 1 : Nat) : Int); omega
  have hsa : Stk T (adv s) := stk_adv hc
  obtain ⟨c0, _, _, _⟩ := h.curCells hg
  have h1' : ((cur T s).kind.r == 1) = false := by rw [r_one]; simpa [kindIs] using hm
  generalize (cur T s).kind.r = kr at *
  have iif := is_any hT h hg hs s.next (at_self _) (bs [105, 102]) (hfx _ (by decide))
  rw [nif] at iif
  have iwhile := is_any hT h hg hs s.next (at_self _) (bs [119, 104, 105, 108, 101]) (hfx _ (by decide))
  rw [nwhile] at iwhile
  have ibegin := is_any hT h hg hs s.next (at_self _) (bs [98, 101, 103, 105, 110]) (hfx _ (by decide))
  rw [ybegin] at ibegin
  have iwrite := is_any hT h hg hs s.next (at_self _) (bs [119, 114, 105, 116, 101]) (hfx _ (by decide))
  rw [sees_one (b := [119, 114, 105, 116, 101]) ybegin (by decide)] at iwrite
  have iread := is_any hT h hg hs s.next (at_self _) (bs [114, 101, 97, 100]) (hfx _ (by decide))
  rw [sees_one (b := [114, 101, 97, 100]) ybegin (by decide)] at iread
  have HE : Hid ((stmtN T (mdE m) (k + 1) s).2 = want T (bs [101, 110, 100]) (listOf T (stmtN T (mdE m) k) (adv s)).2) := by show _ = _; rw [stmtN, if_neg (by rw [hm]; simp), if_neg (by rw [nif]; simp), if_neg (by rw [nwhile]; simp), if_pos ybegin]
  have hga := good_adv hT hg ybegin (bs_ne _ (by simp))
  have hC := list_ok hT hG (mon_stmtN hT (mdE m) k) (sm_stmtN hT (mdE m) k) hfx w (adv s) ((s.next : Int) + 1) live (h.at _) hga hsa hia
  have hma := mon_listOf hT (mon_stmtN hT (mdE m) k) _ hga
  have hsma := sm_listOf hT (sm_stmtN hT (mdE m) k) _ hsa
  have hN := fun W j (hj : At (listOf T (stmtN T (mdE m) k) (adv s)).2 j) (hP : RW wb tb cap T m W (listOf T (stmtN T (mdE m) k) (adv s)).2) => need_any hT hP hma.1 hsma.1 j hj (bs [101, 110, 100]) (hfx _ (by decide))
  clear hm nif nwhile ybegin
  go_enter Tryz.func151, Tryz.ntmps151
  go_wp2_with (first
    | (go_at_call 94; have _q := mk4; refine iread.mono ?_; rintro e w1 ⟨rfl, h1⟩; obtain rfl := h1.symm; clear h1)
    | (go_at_call 94; have _q := mk3; refine iwrite.mono ?_; rintro e w1 ⟨rfl, h1⟩; obtain rfl := h1.symm; clear h1; have mk4 : Hid True := trivial)
    | (go_at_call 94; have _q := mk2; refine ibegin.mono ?_; rintro e w1 ⟨rfl, h1⟩; obtain rfl := h1.symm; clear h1; have mk3 : Hid True := trivial)
    | (go_at_call 94; have _q := mk1; refine iwhile.mono ?_; rintro e w1 ⟨rfl, h1⟩; obtain rfl := h1.symm; clear h1; have mk2 : Hid True := trivial)
    | (go_at_call 94; refine iif.mono ?_; rintro e w1 ⟨rfl, h1⟩; obtain rfl := h1.symm; clear h1; have mk1 : Hid True := trivial)
    | (go_at_call 122; refine hC.mono ?_; rintro e w2 ⟨j2, rfl, ha2, hP2, hk2⟩)
    | (go_at_call 123; refine (hN _ _ ha2 hP2).mono ?_; rintro e w3 ⟨rfl, hP3, hk3⟩))
  go_ret
  unfold WSt
  rw [HE.out]
  exact ⟨_, rfl, at_self _, hP3, hk2.trans hk3⟩

set_option maxRecDepth 1000000 in
set_option maxHeartbeats 1000000 in
theorem st_write (hT : Toks T) (hX : ROK wb tb cap T m 177 (d + 1) (exprN T (mdE m) k)) (hfx : FxA T)
    (hd0 : 0 ≤ d) (hd1 : d ≤ 14) (h : RW wb tb cap T m w s) (hg : Good T s) (hc : s.code = 0) (live : Bool) (hm : kindIs T .name s = false) (nif : sees T (bs [105, 102]) s = false) (nwhile : sees T (bs [119, 104, 105, 108, 101]) s = false) (nbegin : sees T (bs [98, 101, 103, 105, 110]) s = false) (ywrite : sees T (bs [119, 114, 105, 116, 101]) s = true) :
    Calls Tryz.prog 151 #[.pointer (some ⟨wb, 0, none⟩), .int .i64 s.next, .int .i64 d, .bool live] w (WSt wb tb cap T m (stmtN T (mdE m) (k + 1) s).2 w) := by
  have hfa := h.fault
  rw [hc] at hfa
  have hsz := h.size
  have ht := h.toks
  have hg' : s.next < T.length := hg
  have hgi : (s.next : Int) < T.length := by omega
  have hs : Stk T s := fun h => absurd hc h
  have hia : At (adv s) ((s.next : Int) + 1) := fun _ => by show _ = ((s.next + 1 : Nat) : Int); omega
  have hsa : Stk T (adv s) := stk_adv hc
  obtain ⟨c0, _, _, _⟩ := h.curCells hg
  have h1' : ((cur T s).kind.r == 1) = false := by rw [r_one]; simpa [kindIs] using hm
  generalize (cur T s).kind.r = kr at *
  have iif := is_any hT h hg hs s.next (at_self _) (bs [105, 102]) (hfx _ (by decide))
  rw [nif] at iif
  have iwhile := is_any hT h hg hs s.next (at_self _) (bs [119, 104, 105, 108, 101]) (hfx _ (by decide))
  rw [nwhile] at iwhile
  have ibegin := is_any hT h hg hs s.next (at_self _) (bs [98, 101, 103, 105, 110]) (hfx _ (by decide))
  rw [nbegin] at ibegin
  have iwrite := is_any hT h hg hs s.next (at_self _) (bs [119, 114, 105, 116, 101]) (hfx _ (by decide))
  rw [ywrite] at iwrite
  have iread := is_any hT h hg hs s.next (at_self _) (bs [114, 101, 97, 100]) (hfx _ (by decide))
  rw [sees_one (b := [114, 101, 97, 100]) ywrite (by decide)] at iread
  have HE : Hid ((stmtN T (mdE m) (k + 1) s).2 = (exprN T (mdE m) k (adv s)).2) := by show _ = _; rw [stmtN, if_neg (by rw [hm]; simp), if_neg (by rw [nif]; simp), if_neg (by rw [nwhile]; simp), if_neg (by rw [nbegin]; simp), if_pos ywrite]
  have hga := good_adv hT hg ywrite (bs_ne _ (by simp))
  have hC := fun lv => hX w (adv s) ((s.next : Int) + 1) lv (h.at _) hga hsa hia
  clear hm nif nwhile nbegin ywrite
  go_enter Tryz.func151, Tryz.ntmps151
  go_wp2_with (first
    | (go_at_call 94; have _q := mk4; refine iread.mono ?_; rintro e w1 ⟨rfl, h1⟩; obtain rfl := h1.symm; clear h1)
    | (go_at_call 94; have _q := mk3; refine iwrite.mono ?_; rintro e w1 ⟨rfl, h1⟩; obtain rfl := h1.symm; clear h1; have mk4 : Hid True := trivial)
    | (go_at_call 94; have _q := mk2; refine ibegin.mono ?_; rintro e w1 ⟨rfl, h1⟩; obtain rfl := h1.symm; clear h1; have mk3 : Hid True := trivial)
    | (go_at_call 94; have _q := mk1; refine iwhile.mono ?_; rintro e w1 ⟨rfl, h1⟩; obtain rfl := h1.symm; clear h1; have mk2 : Hid True := trivial)
    | (go_at_call 94; refine iif.mono ?_; rintro e w1 ⟨rfl, h1⟩; obtain rfl := h1.symm; clear h1; have mk1 : Hid True := trivial)
    | (go_at_call 176; refine (unit_any h _).mono ?_; rintro e wu ⟨rfl, hu⟩; obtain rfl := hu.symm; clear hu)
    | (go_at_call 177; refine (hC _).mono ?_; rintro e w2 ⟨v2, j2, rfl, ha2, hP2, hk2⟩)
    | (go_at_call 178; refine (lives_any hP2 _).mono ?_; rintro e wl ⟨rfl, hl⟩; obtain rfl := hl.symm; clear hl))
  go_ret
  unfold WSt
  rw [HE.out]
  exact ⟨_, rfl, ha2.1, hP2, hk2⟩

set_option maxRecDepth 1000000 in
set_option maxHeartbeats 1000000 in
theorem st_read (hT : Toks T) (hfx : FxA T)
    (hd0 : 0 ≤ d) (hd1 : d ≤ 14) (h : RW wb tb cap T m w s) (hg : Good T s) (hc : s.code = 0) (live : Bool) (hm : kindIs T .name s = false) (nif : sees T (bs [105, 102]) s = false) (nwhile : sees T (bs [119, 104, 105, 108, 101]) s = false) (nbegin : sees T (bs [98, 101, 103, 105, 110]) s = false) (nwrite : sees T (bs [119, 114, 105, 116, 101]) s = false) (yread : sees T (bs [114, 101, 97, 100]) s = true) :
    Calls Tryz.prog 151 #[.pointer (some ⟨wb, 0, none⟩), .int .i64 s.next, .int .i64 d, .bool live] w (WSt wb tb cap T m (stmtN T (mdE m) (k + 1) s).2 w) := by
  have hfa := h.fault
  rw [hc] at hfa
  have hsz := h.size
  have ht := h.toks
  have hg' : s.next < T.length := hg
  have hgi : (s.next : Int) < T.length := by omega
  have hs : Stk T s := fun h => absurd hc h
  have hia : At (adv s) ((s.next : Int) + 1) := fun _ => by show _ = ((s.next + 1 : Nat) : Int); omega
  have hsa : Stk T (adv s) := stk_adv hc
  obtain ⟨c0, _, _, _⟩ := h.curCells hg
  have h1' : ((cur T s).kind.r == 1) = false := by rw [r_one]; simpa [kindIs] using hm
  generalize (cur T s).kind.r = kr at *
  have iif := is_any hT h hg hs s.next (at_self _) (bs [105, 102]) (hfx _ (by decide))
  rw [nif] at iif
  have iwhile := is_any hT h hg hs s.next (at_self _) (bs [119, 104, 105, 108, 101]) (hfx _ (by decide))
  rw [nwhile] at iwhile
  have ibegin := is_any hT h hg hs s.next (at_self _) (bs [98, 101, 103, 105, 110]) (hfx _ (by decide))
  rw [nbegin] at ibegin
  have iwrite := is_any hT h hg hs s.next (at_self _) (bs [119, 114, 105, 116, 101]) (hfx _ (by decide))
  rw [nwrite] at iwrite
  have iread := is_any hT h hg hs s.next (at_self _) (bs [114, 101, 97, 100]) (hfx _ (by decide))
  rw [yread] at iread
  have HE : Hid ((stmtN T (mdE m) (k + 1) s).2 = readN T (mdE m) (adv s)) := by show _ = _; rw [stmtN, if_neg (by rw [hm]; simp), if_neg (by rw [nif]; simp), if_neg (by rw [nwhile]; simp), if_neg (by rw [nbegin]; simp), if_neg (by rw [nwrite]; simp), if_pos yread]
  have hga := good_adv hT hg yread (bs_ne _ (by simp))
  have hC := reads_any hT h hc hga live
  clear hm nif nwhile nbegin nwrite yread
  go_enter Tryz.func151, Tryz.ntmps151
  go_wp2_with (first
    | (go_at_call 94; have _q := mk4; refine iread.mono ?_; rintro e w1 ⟨rfl, h1⟩; obtain rfl := h1.symm; clear h1)
    | (go_at_call 94; have _q := mk3; refine iwrite.mono ?_; rintro e w1 ⟨rfl, h1⟩; obtain rfl := h1.symm; clear h1; have mk4 : Hid True := trivial)
    | (go_at_call 94; have _q := mk2; refine ibegin.mono ?_; rintro e w1 ⟨rfl, h1⟩; obtain rfl := h1.symm; clear h1; have mk3 : Hid True := trivial)
    | (go_at_call 94; have _q := mk1; refine iwhile.mono ?_; rintro e w1 ⟨rfl, h1⟩; obtain rfl := h1.symm; clear h1; have mk2 : Hid True := trivial)
    | (go_at_call 94; refine iif.mono ?_; rintro e w1 ⟨rfl, h1⟩; obtain rfl := h1.symm; clear h1; have mk1 : Hid True := trivial)
    | (go_at_call 180; refine hC.mono ?_; rintro e w2 ⟨j2, rfl, ha2, hP2, hk2⟩))
  go_ret
  unfold WSt
  rw [HE.out]
  exact ⟨_, rfl, ha2, hP2, hk2⟩

set_option maxRecDepth 1000000 in
set_option maxHeartbeats 1000000 in
theorem st_bad (hT : Toks T) (hfx : FxA T)
    (hd0 : 0 ≤ d) (hd1 : d ≤ 14) (h : RW wb tb cap T m w s) (hg : Good T s) (hc : s.code = 0) (live : Bool) (hm : kindIs T .name s = false) (nif : sees T (bs [105, 102]) s = false) (nwhile : sees T (bs [119, 104, 105, 108, 101]) s = false) (nbegin : sees T (bs [98, 101, 103, 105, 110]) s = false) (nwrite : sees T (bs [119, 114, 105, 116, 101]) s = false) (nread : sees T (bs [114, 101, 97, 100]) s = false) :
    Calls Tryz.prog 151 #[.pointer (some ⟨wb, 0, none⟩), .int .i64 s.next, .int .i64 d, .bool live] w (WSt wb tb cap T m (stmtN T (mdE m) (k + 1) s).2 w) := by
  have hfa := h.fault
  rw [hc] at hfa
  have hsz := h.size
  have ht := h.toks
  have hg' : s.next < T.length := hg
  have hgi : (s.next : Int) < T.length := by omega
  have hs : Stk T s := fun h => absurd hc h
  have hia : At (adv s) ((s.next : Int) + 1) := fun _ => by show _ = ((s.next + 1 : Nat) : Int); omega
  have hsa : Stk T (adv s) := stk_adv hc
  obtain ⟨c0, _, _, _⟩ := h.curCells hg
  have h1' : ((cur T s).kind.r == 1) = false := by rw [r_one]; simpa [kindIs] using hm
  generalize (cur T s).kind.r = kr at *
  have iif := is_any hT h hg hs s.next (at_self _) (bs [105, 102]) (hfx _ (by decide))
  rw [nif] at iif
  have iwhile := is_any hT h hg hs s.next (at_self _) (bs [119, 104, 105, 108, 101]) (hfx _ (by decide))
  rw [nwhile] at iwhile
  have ibegin := is_any hT h hg hs s.next (at_self _) (bs [98, 101, 103, 105, 110]) (hfx _ (by decide))
  rw [nbegin] at ibegin
  have iwrite := is_any hT h hg hs s.next (at_self _) (bs [119, 114, 105, 116, 101]) (hfx _ (by decide))
  rw [nwrite] at iwrite
  have iread := is_any hT h hg hs s.next (at_self _) (bs [114, 101, 97, 100]) (hfx _ (by decide))
  rw [nread] at iread
  have HE : Hid ((stmtN T (mdE m) (k + 1) s).2 = fails T 4 s) := by show _ = _; rw [stmtN, if_neg (by rw [hm]; simp), if_neg (by rw [nif]; simp), if_neg (by rw [nwhile]; simp), if_neg (by rw [nbegin]; simp), if_neg (by rw [nwrite]; simp), if_neg (by rw [nread]; simp)]
  have hC := wrong_any h hg 4 s.next (at_self _)
  clear hm nif nwhile nbegin nwrite nread
  go_enter Tryz.func151, Tryz.ntmps151
  go_wp2_with (first
    | (go_at_call 94; have _q := mk4; refine iread.mono ?_; rintro e w1 ⟨rfl, h1⟩; obtain rfl := h1.symm; clear h1)
    | (go_at_call 94; have _q := mk3; refine iwrite.mono ?_; rintro e w1 ⟨rfl, h1⟩; obtain rfl := h1.symm; clear h1; have mk4 : Hid True := trivial)
    | (go_at_call 94; have _q := mk2; refine ibegin.mono ?_; rintro e w1 ⟨rfl, h1⟩; obtain rfl := h1.symm; clear h1; have mk3 : Hid True := trivial)
    | (go_at_call 94; have _q := mk1; refine iwhile.mono ?_; rintro e w1 ⟨rfl, h1⟩; obtain rfl := h1.symm; clear h1; have mk2 : Hid True := trivial)
    | (go_at_call 94; refine iif.mono ?_; rintro e w1 ⟨rfl, h1⟩; obtain rfl := h1.symm; clear h1; have mk1 : Hid True := trivial)
    | (go_at_call 98; refine hC.mono ?_; rintro e w2 ⟨rfl, hP2, hk2⟩))
  go_ret
  unfold WSt
  rw [HE.out]
  exact ⟨_, rfl, at_self _, hP2, hk2⟩

/-- A statement, at every depth that may be. -/
theorem st_ok (hT : Toks T) (hfx : FxA T) : ∀ (k : Nat) (d : Int), d + k = 15 → 0 ≤ d → RSK wb tb cap T m 151 d (fun s => (stmtN T (mdE m) k s).2)
  | 0, d, hd, h0 => fun w s i live h hg hs hi => by
    by_cases hc : s.code = 0
    · obtain rfl := hi hc
      exact st_deep h hg hc (by omega) live
    · rw [show (fun s => (stmtN T (mdE m) 0 s).2) s = s from (sm_stmtN hT (mdE m) 0 s hs).2 hc]
      exact st_dead h hg hc i live
  | k + 1, d, hd, h0 => fun w s i live h hg hs hi => by
    have ih := st_ok hT hfx k (d + 1) (by omega) (by omega)
    have hX : ROK wb tb cap T m 177 (d + 1) (exprN T (mdE m) k) := refExpr_all hT hfx k (d + 1) (by omega) (by omega)
    by_cases hc : s.code = 0
    · obtain rfl := hi hc
      cases hm : kindIs T .name s with
      | true => exact st_name hT hX hfx h0 (by omega) h hg hc live hm
      | false =>
        cases h1 : sees T (bs [105, 102]) s with
        | true => exact st_if hT hX ih hfx h0 (by omega) h hg hc live hm h1
        | false =>
          cases h2 : sees T (bs [119, 104, 105, 108, 101]) s with
          | true => exact st_while hT hX ih hfx h0 (by omega) h hg hc live hm h1 h2
          | false =>
            cases h3 : sees T (bs [98, 101, 103, 105, 110]) s with
            | true => exact st_begin hT ih hfx h0 (by omega) h hg hc live hm h1 h2 h3
            | false =>
              cases h4 : sees T (bs [119, 114, 105, 116, 101]) s with
              | true => exact st_write hT hX hfx h0 (by omega) h hg hc live hm h1 h2 h3 h4
              | false =>
                cases h5 : sees T (bs [114, 101, 97, 100]) s with
                | true => exact st_read hT hfx h0 (by omega) h hg hc live hm h1 h2 h3 h4 h5
                | false => exact st_bad hT hfx h0 (by omega) h hg hc live hm h1 h2 h3 h4 h5
    · rw [show (fun s => (stmtN T (mdE m) (k + 1) s).2) s = s from (sm_stmtN hT (mdE m) (k + 1) s hs).2 hc]
      exact st_dead h hg hc i live

/-- The list of a body. -/
theorem lists_ok (hT : Toks T) (hfx : FxA T) : RSK wb tb cap T m 122 1 (fun s => (listOf T (stmtN T (mdE m) 14) s).2) :=
  list_ok hT (st_ok hT hfx 14 1 (by omega) (by omega)) (mon_stmtN hT (mdE m) 14) (sm_stmtN hT (mdE m) 14) hfx

end

end Go.Proofs.YtklobognaldjpaaGreat
