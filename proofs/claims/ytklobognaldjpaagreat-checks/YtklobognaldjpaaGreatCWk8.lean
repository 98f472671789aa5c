/- The reference's walk through a call. -/
import Derived.Test.YtklobognaldjpaaGreatCWk7
import Derived.Test.YtklobognaldjpaaGreatCParse10
namespace Go.Proofs.YtklobognaldjpaaGreat
open Go.RowKit

theorem Tryz.infoInt : (Tryz.prog.info? 3).map (fun i => (i.zero, i.size, i.bytes)) = some (some (.int .i64 0), 1, 8) := by kernel_rfl

section
variable {wb tb cap : Nat} {T : List Tok} {m : Option Nm} {n : Nm} {w : World} {s : PS} {d : Int} {pf : PS → Ex × PS}

/-- What a call's walk does. -/
def RCall (wb tb cap : Nat) (T : List Tok) (m : Option Nm) (r : PS) (w : World) (e : Ending) (w' : World) : Prop :=
  e = .returned (.tuple #[.int .i64 0, .int .i64 (r.next : Int)]) ∧ RW wb tb cap T m w' r ∧ Par wb w w'

theorem kind_glob {E : Env} {t : ByteArray} {kind : Nat} (hk : kind = 2 ∨ kind = 3) (h : (E.kindIx t).1 = kind) : ∃ k : Nat, (E.kindIx t).2 = (k : Int) ∧ k < E.glob.length ∧ E.args t = (E.glob.getD k default).args := by
  unfold Env.kindIx at *
  cases h1 : findLast E.here t with
  | some _ => rw [h1] at h; rcases hk with rfl | rfl <;> simp at h
  | none =>
    rw [h1] at h
    cases h2 : findLast E.glob t with
    | none => rw [h2] at h; rcases hk with rfl | rfl <;> simp at h
    | some k => exact ⟨k, rfl, findLast_lt h2, by unfold Env.args; rw [h2]⟩

set_option maxRecDepth 1000000 in
set_option maxHeartbeats 2000000 in
theorem call_none (hT : Toks T) (hF : ROK wb tb cap T none 177 d pf) (hM : Mon T pf) (hS : SM T pf) (hc44 : Fx T (bs [44])) (hc41 : Fx T (bs [41]))
    (h : RW wb tb cap T none w s) (hc : s.code = 0) (hga : Good T (adv (adv s))) (kind : Nat) (live : Bool) :
    Calls Tryz.prog 197 #[.pointer (some ⟨wb, 0, none⟩), .int .i64 s.next, .int .i64 d, .bool live, .int .i64 kind] w (RCall wb tb cap T none (argsOf T pf (callE T (mdE none) s kind (adv (adv s)))).2 w) := by
  have hpl := h.lt
  have htl := h.tlt
  have hsz := h.size
  have hga' : s.next + 2 < T.length := hga
  have hg : Good T s := by show s.next < T.length; omega
  have hsa : Stk T (adv (adv s)) := fun h => absurd hc h
  have hia : At (adv (adv s)) ((s.next : Int) + 2) := fun _ => by show _ = ((s.next + 1 + 1 : Nat) : Int); omega
  have hL := fun W s' (hP : RW wb tb cap T none W s') => lives_any hP live
  have hW := wants_any h hg hc kind
  have HE : Hid (callE T (mdE none) s kind (adv (adv s)) = adv (adv s)) := rfl
  have hI := fun W (hP : RW wb tb cap T none W (adv (adv s))) => is_any hT hP hga hsa ((s.next : Int) + 2) hia (bs [41]) hc41
  cases hsee : sees T (bs [41]) (adv (adv s)) with
  | true =>
    rw [hsee] at hI
    have HE2 : Hid ((argsOf T pf (callE T (mdE none) s kind (adv (adv s)))).2 = want T (bs [41]) (adv (adv s))) := by show _ = _; rw [HE.out]; unfold argsOf want; rw [hsee]; rfl
    have hN := fun W (hP : RW wb tb cap T none W (adv (adv s))) => need_any hT hP hga hsa ((s.next : Int) + 2) hia (bs [41]) hc41
    generalize want T (bs [41]) (adv (adv s)) = s9 at *
    clear hsee HE
    go_enter Tryz.func197, Tryz.ntmps197
    go_wp2_with (first
      | (go_at_call 194; refine hW.mono ?_; rintro e w1 ⟨k1, rfl, hQ1, hkQ1, _⟩; have hmo1 := (hQ1 0).mode_; simp only [mdI] at hmo1)
      | (go_at_call 209; refine (given_none (hQ1 0) _).mono ?_; rintro e w2 ⟨rfl, h2⟩; obtain rfl := h2.symm; clear h2)
      | (go_at_call 94; refine (hI _ (hQ1 (s.next + 2))).mono ?_; rintro e w3 ⟨rfl, h3⟩; obtain rfl := h3.symm; clear h3))
    go_loopw [15, 16, 18, 19, 20] (fun a nx _ _ _ wr => nx = .int .i64 ((s.next : Int) + 2) ∧ RW wb tb cap T none wr (adv (adv s)) ∧ Par wb w wr) (fun _ _ _ _ _ _ => 0)
    case atStart => exact ⟨rfl, hQ1 _, hkQ1⟩
    case round =>
      obtain ⟨rfl, hP1, hk1⟩ := hrel
      go_wp2_with (first
        | (go_at_call 123; refine (hN _ hP1).mono ?_; rintro e w2 ⟨rfl, hP2, hk2⟩)
        | (go_at_call 178; refine (hL _ _ hP2).mono ?_; rintro e w3 ⟨rfl, h3⟩; obtain rfl := h3.symm; clear h3))
      go_ret2
      unfold RCall
      rw [HE2.out]
      exact ⟨rfl, hP2, hk1.trans hk2⟩
  | false =>
    rw [hsee] at hI
    obtain ⟨i0, hi0, hz0, hz1, hz2⟩ := info_parts Tryz.infoInt
    have HE2 : Hid ((argsOf T pf (callE T (mdE none) s kind (adv (adv s)))).2 = want T (bs [41]) (argsLoop T pf T.length [(pf (adv (adv s))).1] (pf (adv (adv s))).2).2) := by show _ = _; rw [HE.out]; unfold argsOf; rw [hsee]; rfl
    clear hsee HE
    go_enter Tryz.func197, Tryz.ntmps197
    go_wp2_with (first
      | (go_at_call 194; refine hW.mono ?_; rintro e w1 ⟨k1, rfl, hQ1, hkQ1, _⟩; have hmo1 := (hQ1 0).mode_; simp only [mdI] at hmo1)
      | (go_at_call 209; refine (given_none (hQ1 0) _).mono ?_; rintro e w2 ⟨rfl, h2⟩; obtain rfl := h2.symm; clear h2)
      | (go_at_call 94; refine (hI _ (hQ1 (s.next + 2))).mono ?_; rintro e w3 ⟨rfl, h3⟩; obtain rfl := h3.symm; clear h3))
    go_loopw [15, 16, 18, 19, 20] (fun a nx _ _ _ wr => ∃ (s' : PS) (vs : List Value) (acc : List Ex) (nn : Nat), nx = .int .i64 (s'.next : Int) ∧ wr.ownsRow w.heap.size 3 1 a vs.length vs ∧ RW wb tb cap T none wr s' ∧ Par wb w wr ∧ Good T s' ∧ s'.code = 0 ∧ T.length ≤ s'.next + nn ∧ vs.length ≤ s'.next ∧ Hid (argsLoop T pf nn (acc ++ [(pf s').1]) (pf s').2 = argsLoop T pf T.length [(pf (adv (adv s))).1] (pf (adv (adv s))).2)) (fun _ nx _ _ _ _ => T.length - (intOf nx).toNat)
    case atStart => exact ⟨adv (adv s), [], [], T.length, by show _ = Value.int .i64 ((s.next + 1 + 1 : Nat) : Int); go_num, World.ownsRow_nil _ _ _ _, hQ1 _, hkQ1, hga, hc, by omega, by simp, rfl⟩
    case round =>
      obtain ⟨s', vs, acc, nn, rfl, hown, hP, hk, hg2, hc2, hn2, hvl, HL⟩ := hrel
      have hg2' : s'.next < T.length := hg2
      have hs2 : Stk T s' := fun h => absurd hc2 h
      have hfa := hP.fault
      rw [hc2] at hfa
      have hma := hM s' hg2
      have hsma := hS s' hs2
      have hmn := hma.2
      have hmg : (pf s').2.next < T.length := hma.1
      have hlt := hown.lt
      have hks := hk.size
      have hA := hF wr s' _ live hP hg2 hs2 (fun _ => rfl)
      cases hsee : sees T (bs [44]) (pf s').2 with
      | true =>
        have hga2 := good_adv hT hma.1 hsee (bs_ne _ (by simp))
        have hga2' : (pf s').2.next + 1 < T.length := hga2
        have hc3 := code_of_sees hT hsma.1 (bs_ne _ (by simp)) hsee
        have hI2 := fun W (hP4 : RW wb tb cap T none W (pf s').2) => is_any hT hP4 hma.1 hsma.1 ((pf s').2.next : Int) (fun _ => rfl) (bs [44]) hc44
        rw [hsee] at hI2
        obtain ⟨n2, rfl⟩ : ∃ n2, nn = n2 + 1 := ⟨nn - 1, by omega⟩
        have HL2 : Hid (argsLoop T pf n2 ((acc ++ [(pf s').1]) ++ [(pf (adv (pf s').2)).1]) (pf (adv (pf s').2)).2 = argsLoop T pf T.length [(pf (adv (adv s))).1] (pf (adv (adv s))).2) := by show _ = _; rw [← HL.out, argsLoop_go hsee]
        clear HL hsee hc2
        go_wp2_with (first
            | (go_at_call 177; refine hA.mono ?_; rintro e w4 ⟨v4, j4, rfl, ha4, hP4, hk4⟩; obtain rfl := ha4.1 hc3)
            | (at_builtin; have _h := hP4; refine wpList_append_own2 rfl _ _ 23 rfl w.heap.size 3 i0 _ 1 8 Tryz.underlying23 hi0 hz0 hz1 hz2 rfl (by decide) _ vs.length vs rfl ((owns_par hown hk4 hpl).alloc _) ⟨_, 0, none⟩ 1 1 [.int .i64 v4] rfl rfl (cell_one_new _ _ _) ?ah1 ?ah63 ?ahby ?ahbase ?ahh
               case ah1 => intro u hu; simp at hu; subst hu; rfl
               case ah63 => unfold maxLen; omega
               case ahby => omega
               case ahbase => have := hk4.size; simp; omega
               intro v5 w5 hown5 hgrow5 hwhere5
               have hP5 : RW wb tb cap T none w5 (pf s').2 := RW.grown h (hP4.alloc _) hgrow5 (fun k hk => (hlt k hk).1)
               have hk5 : Par wb w w5 := par_grown ((hk.trans hk4).alloc _) hgrow5 (fun k hk => (hlt k hk).1)
               have X : Aside (w5.ownsRow w.heap.size 3 1 v5 (vs.length + 1) (vs ++ [.int .i64 v4])) := hown5
               clear hown5 hgrow5 hwhere5)
            | (go_at_call 94; refine (hI2 _ hP5).mono ?_; rintro e w6 ⟨rfl, h6⟩; obtain rfl := h6.symm; clear h6))
        go_roundw
        case rel => exact ⟨adv (pf s').2, vs ++ [.int .i64 v4], acc ++ [(pf s').1], n2, by show _ = Value.int .i64 (((pf s').2.next + 1 : Nat) : Int); go_num, by rw [List.length_append]; exact X.out, hP5.at _, hk5, hga2, hc3, by show T.length ≤ (pf s').2.next + 1 + n2; omega, by rw [List.length_append]; show vs.length + 1 ≤ (pf s').2.next + 1; omega, HL2⟩
        case measure => simp [intOf]; omega
      | false =>
        have hI2 := fun W (j4 : Int) (hj : At (pf s').2 j4) (hP4 : RW wb tb cap T none W (pf s').2) => is_any hT hP4 hma.1 hsma.1 j4 hj (bs [44]) hc44
        rw [hsee] at hI2
        have hN := fun W (j4 : Int) (hj : At (pf s').2 j4) (hP4 : RW wb tb cap T none W (pf s').2) => need_any hT hP4 hma.1 hsma.1 j4 hj (bs [41]) hc41
        have HE3 : Hid ((argsOf T pf (callE T (mdE none) s kind (adv (adv s)))).2 = want T (bs [41]) (pf s').2) := by show _ = _; rw [HE2.out, ← HL.out, argsLoop_stop hsee]
        generalize want T (bs [41]) (pf s').2 = s9 at *
        clear HL hsee HE2 hc2
        go_wp2_with (first
            | (go_at_call 177; refine hA.mono ?_; rintro e w4 ⟨v4, j4, rfl, ha4, hP4, hk4⟩)
            | (at_builtin; have _h := hP4; refine wpList_append_own2 rfl _ _ 23 rfl w.heap.size 3 i0 _ 1 8 Tryz.underlying23 hi0 hz0 hz1 hz2 rfl (by decide) _ vs.length vs rfl ((owns_par hown hk4 hpl).alloc _) ⟨_, 0, none⟩ 1 1 [.int .i64 v4] rfl rfl (cell_one_new _ _ _) ?bh1 ?bh63 ?bhby ?bhbase ?bhh
               case bh1 => intro u hu; simp at hu; subst hu; rfl
               case bh63 => unfold maxLen; omega
               case bhby => omega
               case bhbase => have := hk4.size; simp; omega
               intro v5 w5 hown5 hgrow5 hwhere5
               have hP5 : RW wb tb cap T none w5 (pf s').2 := RW.grown h (hP4.alloc _) hgrow5 (fun k hk => (hlt k hk).1)
               have hk5 : Par wb w w5 := par_grown ((hk.trans hk4).alloc _) hgrow5 (fun k hk => (hlt k hk).1)
               have X : Aside (w5.ownsRow w.heap.size 3 1 v5 (vs.length + 1) (vs ++ [.int .i64 v4])) := hown5
               clear hown5 hgrow5 hwhere5)
            | (go_at_call 94; refine (hI2 _ _ ha4.1 hP5).mono ?_; rintro e w6 ⟨rfl, h6⟩; obtain rfl := h6.symm; clear h6)
            | (go_at_call 123; refine (hN _ _ ha4.1 hP5).mono ?_; rintro e w7 ⟨rfl, hP7, hk7⟩)
            | (go_at_call 178; refine (hL _ _ hP7).mono ?_; rintro e w8 ⟨rfl, h8⟩; obtain rfl := h8.symm; clear h8))
        go_ret2
        unfold RCall
        rw [HE3.out]
        exact ⟨rfl, hP7, hk5.trans hk7⟩

set_option maxRecDepth 1000000 in
set_option maxHeartbeats 2000000 in
theorem call_some_ok (hT : Toks T) (hF : ROK wb tb cap T (some n) 177 d pf) (hM : Mon T pf) (hS : SM T pf) (hc44 : Fx T (bs [44])) (hc41 : Fx T (bs [41]))
    (h : RW wb tb cap T (some n) w s) (hc : s.code = 0) (hga : Good T (adv (adv s))) (kind : Nat) (hkd : kind = 2 ∨ kind = 3) (live : Bool)
    (hk1 : (n.E.kindIx (cur T s).text).1 = kind) (hgv : givenT T s = n.E.args (cur T s).text) :
    Calls Tryz.prog 197 #[.pointer (some ⟨wb, 0, none⟩), .int .i64 s.next, .int .i64 d, .bool live, .int .i64 kind] w (RCall wb tb cap T (some n) (argsOf T pf (callE T (mdE (some n)) s kind (adv (adv s)))).2 w) := by
  have hpl := h.lt
  have htl := h.tlt
  have hsz := h.size
  have hga' : s.next + 2 < T.length := hga
  have hg : Good T s := by show s.next < T.length; omega
  have hsa : Stk T (adv (adv s)) := fun h => absurd hc h
  have hia : At (adv (adv s)) ((s.next : Int) + 2) := fun _ => by show _ = ((s.next + 1 + 1 : Nat) : Int); omega
  have hL := fun W s' (hP : RW wb tb cap T (some n) W s') => lives_any hP live
  have hW := wants_any h hg hc kind
  have HE : Hid (callE T (mdE (some n)) s kind (adv (adv s)) = adv (adv s)) := by
    show (if (n.E.kindIx (cur T s).text).1 = kind then (if givenT T s = n.E.args (cur T s).text then adv (adv s) else stop T 7 (cur T s).pos) else stop T 6 (cur T s).pos) = adv (adv s)
    rw [if_pos hk1, if_pos hgv]
  have hok : ∀ nx, wantsE T (mdE (some n)) s kind { s with next := nx } = { s with next := nx } := fun nx => by
    show (if (n.E.kindIx (cur T s).text).1 = kind then _ else _) = _
    rw [if_pos hk1]
  obtain ⟨k, hix, hk, har⟩ := kind_glob hkd hk1
  have hl2 := (h.env n rfl).glen
  have hki : (k : Int) < n.E.glob.length := by omega
  rw [← hgv] at har
  have hGv := fun W (hP : RW wb tb cap T (some n) W s) => given_any hP hc hga'
  have hgl : givenT T s ≤ givenT T s := Nat.le_refl _
  generalize givenT T s = gt at *
  have HAR : Hid (gt = (n.E.glob.getD k default).args) := har
  clear har hgl
  have hI := fun W (hP : RW wb tb cap T (some n) W (adv (adv s))) => is_any hT hP hga hsa ((s.next : Int) + 2) hia (bs [41]) hc41
  clear hk1 hgv
  cases hsee : sees T (bs [41]) (adv (adv s)) with
  | true =>
    rw [hsee] at hI
    have HE2 : Hid ((argsOf T pf (callE T (mdE (some n)) s kind (adv (adv s)))).2 = want T (bs [41]) (adv (adv s))) := by show _ = _; rw [HE.out]; unfold argsOf want; rw [hsee]; rfl
    have hN := fun W (hP : RW wb tb cap T (some n) W (adv (adv s))) => need_any hT hP hga hsa ((s.next : Int) + 2) hia (bs [41]) hc41
    generalize want T (bs [41]) (adv (adv s)) = s9 at *
    clear hsee HE
    go_enter Tryz.func197, Tryz.ntmps197
    go_wp2_with (first
      | (go_at_call 194; refine hW.mono ?_; rintro e w1 ⟨k1, rfl, hQ1, hkQ1, hk1⟩; rw [hk1 n rfl, hix]; have hQ2 := fun nx => (hok nx ▸ hQ1 nx : RW wb tb cap T (some n) w1 { s with next := nx }); clear hQ1 hk1; have hmo1 := (hQ2 0).mode_; simp only [mdI] at hmo1; have hfa1 := (hQ2 0).fault; rw [show ({ s with next := 0 } : PS).code = 0 from hc] at hfa1; have hE1 := (hQ2 0).env n rfl; obtain ⟨b, cp, hv, hcells⟩ := hE1.g.block (by omega); have hgc := hE1.gcell; rw [hv] at hgc; obtain ⟨_, _, ca⟩ := hcells k hk; rw [← HAR.out] at ca; clear hE1 hcells)
      | (go_at_call 209; refine (hGv _ (hQ2 s.next)).mono ?_; rintro e w2 ⟨rfl, h2⟩; obtain rfl := h2.symm; clear h2)
      | (go_at_call 94; refine (hI _ (hQ2 (s.next + 2))).mono ?_; rintro e w3 ⟨rfl, h3⟩; obtain rfl := h3.symm; clear h3))
    go_loopw [15, 16, 18, 19, 20] (fun a nx _ _ _ wr => nx = .int .i64 ((s.next : Int) + 2) ∧ RW wb tb cap T (some n) wr (adv (adv s)) ∧ Par wb w wr) (fun _ _ _ _ _ _ => 0)
    case atStart => exact ⟨rfl, hQ2 _, hkQ1⟩
    case round =>
      obtain ⟨rfl, hP1, hk1⟩ := hrel
      go_wp2_with (first
        | (go_at_call 123; refine (hN _ hP1).mono ?_; rintro e w2 ⟨rfl, hP2, hk2⟩)
        | (go_at_call 178; refine (hL _ _ hP2).mono ?_; rintro e w3 ⟨rfl, h3⟩; obtain rfl := h3.symm; clear h3))
      go_ret2
      unfold RCall
      rw [HE2.out]
      exact ⟨rfl, hP2, hk1.trans hk2⟩
  | false =>
    rw [hsee] at hI
    obtain ⟨i0, hi0, hz0, hz1, hz2⟩ := info_parts Tryz.infoInt
    have HE2 : Hid ((argsOf T pf (callE T (mdE (some n)) s kind (adv (adv s)))).2 = want T (bs [41]) (argsLoop T pf T.length [(pf (adv (adv s))).1] (pf (adv (adv s))).2).2) := by show _ = _; rw [HE.out]; unfold argsOf; rw [hsee]; rfl
    clear hsee HE
    go_enter Tryz.func197, Tryz.ntmps197
    go_wp2_with (first
      | (go_at_call 194; refine hW.mono ?_; rintro e w1 ⟨k1, rfl, hQ1, hkQ1, hk1⟩; rw [hk1 n rfl, hix]; have hQ2 := fun nx => (hok nx ▸ hQ1 nx : RW wb tb cap T (some n) w1 { s with next := nx }); clear hQ1 hk1; have hmo1 := (hQ2 0).mode_; simp only [mdI] at hmo1; have hfa1 := (hQ2 0).fault; rw [show ({ s with next := 0 } : PS).code = 0 from hc] at hfa1; have hE1 := (hQ2 0).env n rfl; obtain ⟨b, cp, hv, hcells⟩ := hE1.g.block (by omega); have hgc := hE1.gcell; rw [hv] at hgc; obtain ⟨_, _, ca⟩ := hcells k hk; rw [← HAR.out] at ca; clear hE1 hcells)
      | (go_at_call 209; refine (hGv _ (hQ2 s.next)).mono ?_; rintro e w2 ⟨rfl, h2⟩; obtain rfl := h2.symm; clear h2)
      | (go_at_call 94; refine (hI _ (hQ2 (s.next + 2))).mono ?_; rintro e w3 ⟨rfl, h3⟩; obtain rfl := h3.symm; clear h3))
    go_loopw [15, 16, 18, 19, 20] (fun a nx _ _ _ wr => ∃ (s' : PS) (vs : List Value) (acc : List Ex) (nn : Nat), nx = .int .i64 (s'.next : Int) ∧ wr.ownsRow w.heap.size 3 1 a vs.length vs ∧ RW wb tb cap T (some n) wr s' ∧ Par wb w wr ∧ Good T s' ∧ s'.code = 0 ∧ T.length ≤ s'.next + nn ∧ vs.length ≤ s'.next ∧ Hid (argsLoop T pf nn (acc ++ [(pf s').1]) (pf s').2 = argsLoop T pf T.length [(pf (adv (adv s))).1] (pf (adv (adv s))).2)) (fun _ nx _ _ _ _ => T.length - (intOf nx).toNat)
    case atStart => exact ⟨adv (adv s), [], [], T.length, by show _ = Value.int .i64 ((s.next + 1 + 1 : Nat) : Int); go_num, World.ownsRow_nil _ _ _ _, hQ2 _, hkQ1, hga, hc, by omega, by simp, rfl⟩
    case round =>
      obtain ⟨s', vs, acc, nn, rfl, hown, hP, hk, hg2, hc2, hn2, hvl, HL⟩ := hrel
      have hg2' : s'.next < T.length := hg2
      have hs2 : Stk T s' := fun h => absurd hc2 h
      have hfa := hP.fault
      rw [hc2] at hfa
      have hma := hM s' hg2
      have hsma := hS s' hs2
      have hmn := hma.2
      have hmg : (pf s').2.next < T.length := hma.1
      have hlt := hown.lt
      have hks := hk.size
      have hA := hF wr s' _ live hP hg2 hs2 (fun _ => rfl)
      cases hsee : sees T (bs [44]) (pf s').2 with
      | true =>
        have hga2 := good_adv hT hma.1 hsee (bs_ne _ (by simp))
        have hga2' : (pf s').2.next + 1 < T.length := hga2
        have hc3 := code_of_sees hT hsma.1 (bs_ne _ (by simp)) hsee
        have hI2 := fun W (hP4 : RW wb tb cap T (some n) W (pf s').2) => is_any hT hP4 hma.1 hsma.1 ((pf s').2.next : Int) (fun _ => rfl) (bs [44]) hc44
        rw [hsee] at hI2
        obtain ⟨n2, rfl⟩ : ∃ n2, nn = n2 + 1 := ⟨nn - 1, by omega⟩
        have HL2 : Hid (argsLoop T pf n2 ((acc ++ [(pf s').1]) ++ [(pf (adv (pf s').2)).1]) (pf (adv (pf s').2)).2 = argsLoop T pf T.length [(pf (adv (adv s))).1] (pf (adv (adv s))).2) := by show _ = _; rw [← HL.out, argsLoop_go hsee]
        clear HL hsee hc2
        go_wp2_with (first
            | (go_at_call 177; refine hA.mono ?_; rintro e w4 ⟨v4, j4, rfl, ha4, hP4, hk4⟩; obtain rfl := ha4.1 hc3)
            | (at_builtin; have _h := hP4; refine wpList_append_own2 rfl _ _ 23 rfl w.heap.size 3 i0 _ 1 8 Tryz.underlying23 hi0 hz0 hz1 hz2 rfl (by decide) _ vs.length vs rfl ((owns_par hown hk4 hpl).alloc _) ⟨_, 0, none⟩ 1 1 [.int .i64 v4] rfl rfl (cell_one_new _ _ _) ?ah1 ?ah63 ?ahby ?ahbase ?ahh
               case ah1 => intro u hu; simp at hu; subst hu; rfl
               case ah63 => unfold maxLen; omega
               case ahby => omega
               case ahbase => have := hk4.size; simp; omega
               intro v5 w5 hown5 hgrow5 hwhere5
               have hP5 : RW wb tb cap T (some n) w5 (pf s').2 := RW.grown h (hP4.alloc _) hgrow5 (fun k hk => (hlt k hk).1)
               have hk5 : Par wb w w5 := par_grown ((hk.trans hk4).alloc _) hgrow5 (fun k hk => (hlt k hk).1)
               have X : Aside (w5.ownsRow w.heap.size 3 1 v5 (vs.length + 1) (vs ++ [.int .i64 v4])) := hown5
               clear hown5 hgrow5 hwhere5)
            | (go_at_call 94; refine (hI2 _ hP5).mono ?_; rintro e w6 ⟨rfl, h6⟩; obtain rfl := h6.symm; clear h6))
        go_roundw
        case rel => exact ⟨adv (pf s').2, vs ++ [.int .i64 v4], acc ++ [(pf s').1], n2, by show _ = Value.int .i64 (((pf s').2.next + 1 : Nat) : Int); go_num, by rw [List.length_append]; exact X.out, hP5.at _, hk5, hga2, hc3, by show T.length ≤ (pf s').2.next + 1 + n2; omega, by rw [List.length_append]; show vs.length + 1 ≤ (pf s').2.next + 1; omega, HL2⟩
        case measure => simp [intOf]; omega
      | false =>
        have hI2 := fun W (j4 : Int) (hj : At (pf s').2 j4) (hP4 : RW wb tb cap T (some n) W (pf s').2) => is_any hT hP4 hma.1 hsma.1 j4 hj (bs [44]) hc44
        rw [hsee] at hI2
        have hN := fun W (j4 : Int) (hj : At (pf s').2 j4) (hP4 : RW wb tb cap T (some n) W (pf s').2) => need_any hT hP4 hma.1 hsma.1 j4 hj (bs [41]) hc41
        have HE3 : Hid ((argsOf T pf (callE T (mdE (some n)) s kind (adv (adv s)))).2 = want T (bs [41]) (pf s').2) := by show _ = _; rw [HE2.out, ← HL.out, argsLoop_stop hsee]
        generalize want T (bs [41]) (pf s').2 = s9 at *
        clear HL hsee HE2 hc2
        go_wp2_with (first
            | (go_at_call 177; refine hA.mono ?_; rintro e w4 ⟨v4, j4, rfl, ha4, hP4, hk4⟩)
            | (at_builtin; have _h := hP4; refine wpList_append_own2 rfl _ _ 23 rfl w.heap.size 3 i0 _ 1 8 Tryz.underlying23 hi0 hz0 hz1 hz2 rfl (by decide) _ vs.length vs rfl ((owns_par hown hk4 hpl).alloc _) ⟨_, 0, none⟩ 1 1 [.int .i64 v4] rfl rfl (cell_one_new _ _ _) ?bh1 ?bh63 ?bhby ?bhbase ?bhh
               case bh1 => intro u hu; simp at hu; subst hu; rfl
               case bh63 => unfold maxLen; omega
               case bhby => omega
               case bhbase => have := hk4.size; simp; omega
               intro v5 w5 hown5 hgrow5 hwhere5
               have hP5 : RW wb tb cap T (some n) w5 (pf s').2 := RW.grown h (hP4.alloc _) hgrow5 (fun k hk => (hlt k hk).1)
               have hk5 : Par wb w w5 := par_grown ((hk.trans hk4).alloc _) hgrow5 (fun k hk => (hlt k hk).1)
               have X : Aside (w5.ownsRow w.heap.size 3 1 v5 (vs.length + 1) (vs ++ [.int .i64 v4])) := hown5
               clear hown5 hgrow5 hwhere5)
            | (go_at_call 94; refine (hI2 _ _ ha4.1 hP5).mono ?_; rintro e w6 ⟨rfl, h6⟩; obtain rfl := h6.symm; clear h6)
            | (go_at_call 123; refine (hN _ _ ha4.1 hP5).mono ?_; rintro e w7 ⟨rfl, hP7, hk7⟩)
            | (go_at_call 178; refine (hL _ _ hP7).mono ?_; rintro e w8 ⟨rfl, h8⟩; obtain rfl := h8.symm; clear h8))
        go_ret2
        unfold RCall
        rw [HE3.out]
        exact ⟨rfl, hP7, hk5.trans hk7⟩

set_option maxRecDepth 1000000 in
set_option maxHeartbeats 2000000 in
theorem call_some_kind (hT : Toks T) (hc41 : Fx T (bs [41])) (hS : SM T pf)
    (h : RW wb tb cap T (some n) w s) (hc : s.code = 0) (hga : Good T (adv (adv s))) (kind : Nat) (live : Bool)
    (hk1 : ¬ (n.E.kindIx (cur T s).text).1 = kind) :
    Calls Tryz.prog 197 #[.pointer (some ⟨wb, 0, none⟩), .int .i64 s.next, .int .i64 d, .bool live, .int .i64 kind] w (RCall wb tb cap T (some n) (argsOf T pf (callE T (mdE (some n)) s kind (adv (adv s)))).2 w) := by
  have hpl := h.lt
  have hsz := h.size
  have hga' : s.next + 2 < T.length := hga
  have hg : Good T s := by show s.next < T.length; omega
  have hL := fun W s' (hP : RW wb tb cap T (some n) W s') => lives_any hP live
  have hW := wants_any h hg hc kind
  have hst : Stk T (stop T 6 (cur T s).pos) := fun _ => rfl
  have hgs : Good T (stop T 6 (cur T s).pos) := (mon_stop hT 6 (cur T s).pos hg).1
  have HE : Hid ((argsOf T pf (callE T (mdE (some n)) s kind (adv (adv s)))).2 = stop T 6 (cur T s).pos) := by
    show (argsOf T pf (if (n.E.kindIx (cur T s).text).1 = kind then _ else stop T 6 (cur T s).pos)).2 = _
    rw [if_neg hk1]
    exact (sm_argsOf hT hS _ hst).2 (by simp [stop])
  have hbad : ∀ nx, wantsE T (mdE (some n)) s kind { s with next := nx } = stop T 6 (cur T s).pos := fun nx => by
    show (if (n.E.kindIx (cur T s).text).1 = kind then _ else _) = _
    rw [if_neg hk1]
  have hsc : (stop T 6 (cur T s).pos).code = 6 := rfl
  have HN : Hid (want T (bs [41]) (stop T 6 (cur T s).pos) = stop T 6 (cur T s).pos) := (sm_want hT (bs_ne _ (by simp)) hst).2 (by simp [stop])
  have hse : sees T (bs [41]) (stop T 6 (cur T s).pos) = false := sees_stuck hT hst (by simp [stop]) (bs_ne _ (by simp))
  generalize stop T 6 (cur T s).pos = s6 at *
  have hat : At s6 ((s.next : Int) + 2) := fun h => by rw [hsc] at h; cases h
  have hI := fun W (hP : RW wb tb cap T (some n) W s6) => is_any hT hP hgs hst ((s.next : Int) + 2) hat (bs [41]) hc41
  have hN := fun W (hP : RW wb tb cap T (some n) W s6) => need_any hT hP hgs hst ((s.next : Int) + 2) hat (bs [41]) hc41
  rw [hse] at hI
  rw [HN.out] at hN
  clear hk1 hse HN
  go_enter Tryz.func197, Tryz.ntmps197
  go_wp2_with (first
    | (go_at_call 194; refine hW.mono ?_; rintro e w1 ⟨k1, rfl, hQ1, hkQ1, _⟩; have hQ2 := (hbad 0 ▸ hQ1 0 : RW wb tb cap T (some n) w1 s6); clear hQ1; have hmo1 := hQ2.mode_; simp only [mdI] at hmo1; have hfa1 := hQ2.fault; rw [hsc] at hfa1)
    | (go_at_call 209; refine (given_dead hQ2 (by rw [hsc]; decide) _).mono ?_; rintro e w2 ⟨rfl, h2⟩; obtain rfl := h2.symm; clear h2)
    | (go_at_call 94; refine (hI _ hQ2).mono ?_; rintro e w3 ⟨rfl, h3⟩; obtain rfl := h3.symm; clear h3))
  go_loopw [15, 16, 18, 19, 20] (fun a nx _ _ _ wr => nx = .int .i64 ((s.next : Int) + 2) ∧ RW wb tb cap T (some n) wr s6 ∧ Par wb w wr) (fun _ _ _ _ _ _ => 0)
  case atStart => exact ⟨rfl, hQ2, hkQ1⟩
  case round =>
    obtain ⟨rfl, hP1, hk1⟩ := hrel
    have hfa2 := hP1.fault
    rw [hsc] at hfa2
    go_wp2_with (first
      | (go_at_call 123; refine (hN _ hP1).mono ?_; rintro e w2 ⟨rfl, hP2, hk2⟩)
      | (go_at_call 178; refine (hL _ _ hP2).mono ?_; rintro e w3 ⟨rfl, h3⟩; obtain rfl := h3.symm; clear h3))
    go_ret2
    unfold RCall
    rw [HE.out]
    exact ⟨rfl, hP2, hk1.trans hk2⟩

set_option maxRecDepth 1000000 in
set_option maxHeartbeats 2000000 in
theorem call_some_args (hT : Toks T) (hc41 : Fx T (bs [41])) (hS : SM T pf)
    (h : RW wb tb cap T (some n) w s) (hc : s.code = 0) (hga : Good T (adv (adv s))) (kind : Nat) (hkd : kind = 2 ∨ kind = 3) (live : Bool)
    (hk1 : (n.E.kindIx (cur T s).text).1 = kind) (hgv : ¬ givenT T s = n.E.args (cur T s).text) :
    Calls Tryz.prog 197 #[.pointer (some ⟨wb, 0, none⟩), .int .i64 s.next, .int .i64 d, .bool live, .int .i64 kind] w (RCall wb tb cap T (some n) (argsOf T pf (callE T (mdE (some n)) s kind (adv (adv s)))).2 w) := by
  have hpl := h.lt
  have hsz := h.size
  have hga' : s.next + 2 < T.length := hga
  have hg : Good T s := by show s.next < T.length; omega
  have hL := fun W s' (hP : RW wb tb cap T (some n) W s') => lives_any hP live
  have hW := wants_any h hg hc kind
  have hst : Stk T (stop T 7 (cur T s).pos) := fun _ => rfl
  have hgs : Good T (stop T 7 (cur T s).pos) := (mon_stop hT 7 (cur T s).pos hg).1
  have HE : Hid ((argsOf T pf (callE T (mdE (some n)) s kind (adv (adv s)))).2 = stop T 7 (cur T s).pos) := by
    show (argsOf T pf (if (n.E.kindIx (cur T s).text).1 = kind then (if givenT T s = n.E.args (cur T s).text then _ else stop T 7 (cur T s).pos) else _)).2 = _
    rw [if_pos hk1, if_neg hgv]
    exact (sm_argsOf hT hS _ hst).2 (by simp [stop])
  have hok : ∀ nx, wantsE T (mdE (some n)) s kind { s with next := nx } = { s with next := nx } := fun nx => by
    show (if (n.E.kindIx (cur T s).text).1 = kind then _ else _) = _
    rw [if_pos hk1]
  obtain ⟨k, hix, hk, har⟩ := kind_glob hkd hk1
  have hGv := fun W (hP : RW wb tb cap T (some n) W s) => given_any hP hc hga'
  have hl2 := (h.env n rfl).glen
  have hki : (k : Int) < n.E.glob.length := by omega
  have hne : ((givenT T s : Int) != (n.E.args (cur T s).text : Int)) = true := by simp; omega
  have hWr := fun W (hP : RW wb tb cap T (some n) W { s with next := s.next }) => wrong_any (s := s) hP hg 7 s.next (fun _ => rfl)
  have e7 : fails T 7 s = stop T 7 (cur T s).pos := by simp [fails, stop, hc]
  rw [e7] at hWr
  have hsc : (stop T 7 (cur T s).pos).code = 7 := rfl
  have HN : Hid (want T (bs [41]) (stop T 7 (cur T s).pos) = stop T 7 (cur T s).pos) := (sm_want hT (bs_ne _ (by simp)) hst).2 (by simp [stop])
  have hse : sees T (bs [41]) (stop T 7 (cur T s).pos) = false := sees_stuck hT hst (by simp [stop]) (bs_ne _ (by simp))
  clear e7
  generalize stop T 7 (cur T s).pos = s6 at *
  generalize n.E.args (cur T s).text = na at *
  generalize givenT T s = gt at *
  have HAR : Hid (na = (n.E.glob.getD k default).args) := har
  clear har
  have hat : At s6 ((s.next : Int) + 2) := fun h => by rw [hsc] at h; cases h
  have hI := fun W (hP : RW wb tb cap T (some n) W s6) => is_any hT hP hgs hst ((s.next : Int) + 2) hat (bs [41]) hc41
  have hN := fun W (hP : RW wb tb cap T (some n) W s6) => need_any hT hP hgs hst ((s.next : Int) + 2) hat (bs [41]) hc41
  rw [hse] at hI
  rw [HN.out] at hN
  clear hk1 hse HN hgv
  go_enter Tryz.func197, Tryz.ntmps197
  go_wp2_with (first
    | (go_at_call 194; refine hW.mono ?_; rintro e w1 ⟨k1, rfl, hQ1, hkQ1, hk1⟩; rw [hk1 n rfl, hix]; have hQ2 := fun nx => (hok nx ▸ hQ1 nx : RW wb tb cap T (some n) w1 { s with next := nx }); clear hQ1 hk1; have hmo1 := (hQ2 0).mode_; simp only [mdI] at hmo1; have hfa1 := (hQ2 0).fault; rw [show ({ s with next := 0 } : PS).code = 0 from hc] at hfa1; have hE1 := (hQ2 0).env n rfl; obtain ⟨b, cp, hv, hcells⟩ := hE1.g.block (by omega); have hgc := hE1.gcell; rw [hv] at hgc; obtain ⟨_, _, ca⟩ := hcells k hk; rw [← HAR.out] at ca; clear hE1 hcells)
    | (go_at_call 209; refine (hGv _ (hQ2 s.next)).mono ?_; rintro e w2 ⟨rfl, h2⟩; obtain rfl := h2.symm; clear h2)
    | (go_at_call 98; refine (hWr _ (hQ2 s.next)).mono ?_; rintro e w3 ⟨rfl, hP3, hk3⟩)
    | (go_at_call 94; refine (hI _ hP3).mono ?_; rintro e w4 ⟨rfl, h4⟩; obtain rfl := h4.symm; clear h4))
  go_loopw [15, 16, 18, 19, 20] (fun a nx _ _ _ wr => nx = .int .i64 ((s.next : Int) + 2) ∧ RW wb tb cap T (some n) wr s6 ∧ Par wb w wr) (fun _ _ _ _ _ _ => 0)
  case atStart => exact ⟨rfl, hP3, hkQ1.trans hk3⟩
  case round =>
    obtain ⟨rfl, hP1, hk1⟩ := hrel
    have hfa2 := hP1.fault
    rw [hsc] at hfa2
    go_wp2_with (first
      | (go_at_call 123; refine (hN _ hP1).mono ?_; rintro e w2 ⟨rfl, hP2, hk2⟩)
      | (go_at_call 178; refine (hL _ _ hP2).mono ?_; rintro e w3 ⟨rfl, h3⟩; obtain rfl := h3.symm; clear h3))
    go_ret2
    unfold RCall
    rw [HE.out]
    exact ⟨rfl, hP2, hk1.trans hk2⟩

/-- A call, whatever is looked at. -/
theorem call_any (hT : Toks T) (hF : ROK wb tb cap T m 177 d pf) (hM : Mon T pf) (hS : SM T pf) (hc44 : Fx T (bs [44])) (hc41 : Fx T (bs [41]))
    (h : RW wb tb cap T m w s) (hc : s.code = 0) (hga : Good T (adv (adv s))) (kind : Nat) (hkd : kind = 2 ∨ kind = 3) (live : Bool) :
    Calls Tryz.prog 197 #[.pointer (some ⟨wb, 0, none⟩), .int .i64 s.next, .int .i64 d, .bool live, .int .i64 kind] w (RCall wb tb cap T m (argsOf T pf (callE T (mdE m) s kind (adv (adv s)))).2 w) := by
  cases m with
  | none => exact call_none hT hF hM hS hc44 hc41 h hc hga kind live
  | some n =>
    by_cases hk1 : (n.E.kindIx (cur T s).text).1 = kind
    · by_cases hgv : givenT T s = n.E.args (cur T s).text
      · exact call_some_ok hT hF hM hS hc44 hc41 h hc hga kind hkd live hk1 hgv
      · exact call_some_args hT hc41 hS h hc hga kind hkd live hk1 hgv
    · exact call_some_kind hT hc41 hS h hc hga kind live hk1

end

end Go.Proofs.YtklobognaldjpaaGreat
