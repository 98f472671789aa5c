/- Plain: where a token lay does not matter to a run. Plain: a lesson with whatever may stand between its tokens: it passes, and its tree is one but for places. -/
import Derived.Test.YtklobognaldjpaaGreatCSim2
import Derived.Test.YtklobognaldjpaaGreatCLes7
import Derived.Test.YtklobognaldjpaaGreatCNw1
namespace Go.Proofs.YtklobognaldjpaaGreat

mutual
def erEx : Ex → Ex
  | .nil => .nil
  | .num v => .num v
  | .var n _ => .var n 0
  | .elem n _ i => .elem n 0 (erEx i)
  | .call n _ args => .call n 0 (erExs args)
  | .bin op l r => .bin op (erEx l) (erEx r)
  | .un op e => .un op (erEx e)
def erExs : List Ex → List Ex
  | [] => []
  | e :: r => erEx e :: erExs r
end

mutual
def erSt : St → St
  | .nil => .nil
  | .assign n _ e => .assign n 0 (erEx e)
  | .put n _ i e => .put n 0 (erEx i) (erEx e)
  | .proc n _ args => .proc n 0 (erExs args)
  | .ite c t f => .ite (erEx c) (erSt t) (erSt f)
  | .loop c b => .loop (erEx c) (erSt b)
  | .block l => .block (erSts l)
  | .write e => .write (erEx e)
  | .read n _ => .read n 0
def erSts : List St → List St
  | [] => []
  | x :: r => erSt x :: erSts r
end

def erRo (r : Ro) : Ro := ⟨(r.name.1, 0), r.params.map (fun x => (x.1, 0)), r.locals.map (fun x => (x.1, 0)), erSts r.body⟩
def erGl : Gl → Gl
  | .var n _ => .var n 0
  | .arr n _ s _ => .arr n 0 s 0
  | .proc r => .proc (erRo r)
  | .func r => .func (erRo r)
def erPr (p : Pr) : Pr := ⟨p.globals.map erGl, erSts p.body⟩

section
variable (B : Nat) (call : Bool → ByteArray → List Int → RS → Int × RS)

mutual
theorem eval_er : ∀ (e : Ex) (s : RS), evalEx call (erEx e) s = evalEx call e s
  | .nil, s => rfl
  | .num v, s => rfl
  | .var n p, s => rfl
  | .elem n p i, s => by rw [erEx, evalEx, evalEx, eval_er i s]
  | .call n p args, s => by rw [erEx, evalEx, evalEx, evals_er args s]
  | .bin op l r, s => by rw [erEx, evalEx, evalEx, eval_er l s, eval_er r (evalEx call l s).2]
  | .un op e, s => by rw [erEx, evalEx, evalEx, eval_er e s]
theorem evals_er : ∀ (l : List Ex) (s : RS), evalExs call (erExs l) s = evalExs call l s
  | [], s => rfl
  | e :: r, s => by rw [erExs, evalExs, evalExs, eval_er e s, evals_er r (evalEx call e s).2]
end

mutual
theorem run_er : ∀ (x : St) (s : RS), runSt B call (erSt x) s = runSt B call x s
  | .nil, s => rfl
  | .assign n p e, s => by rw [erSt, runSt, runSt, eval_er call e (s.unit B)]
  | .put n p i e, s => by rw [erSt, runSt, runSt, eval_er call i (s.unit B), eval_er call e (evalEx call i (s.unit B)).2]
  | .proc n p args, s => by rw [erSt, runSt, runSt, evals_er call args (s.unit B)]
  | .ite c t f, s => by rw [erSt, runSt, runSt, eval_er call c (s.unit B), run_er t, run_er f]
  | .loop c b, s => by
    rw [erSt, runSt, runSt]
    have e1 : evalEx call (erEx c) = evalEx call c := funext fun s => eval_er call c s
    have e2 : runSt B call (erSt b) = runSt B call b := funext fun s => run_er b s
    rw [e1, e2]
  | .block l, s => by rw [erSt, runSt, runSt, runs_er l s]
  | .write e, s => by rw [erSt, runSt, runSt, eval_er call e (s.unit B)]
  | .read n p, s => by rw [erSt, runSt, runSt]
theorem runs_er : ∀ (l : List St) (s : RS), runSts B call (erSts l) s = runSts B call l s
  | [], s => rfl
  | x :: r, s => by rw [erSts, runSts, runSts, run_er x s, runs_er r (runSt B call x s)]
end
end

theorem ro_cells (r : Ro) : (erRo r).cells = r.cells := by
  unfold Ro.cells erRo
  simp only [List.map_append, List.map_map]
  rfl
theorem ro_own (f : Bool) (r : Ro) : (erRo r).own f = r.own f := by
  unfold Ro.own; rw [ro_cells]; rfl
theorem ro_enter (f : Bool) (r : Ro) (vs : List Int) : (erRo r).enter f vs = r.enter f vs := by
  unfold Ro.enter; rw [ro_cells, ro_own]; rfl
theorem ro_result (f : Bool) (r : Ro) (h : List (ByteArray × Int)) : (erRo r).result f h = r.result f h := by
  unfold Ro.result; rw [ro_cells, ro_own]

theorem routine_er (n : ByteArray) : ∀ (G : List Gl), routineOf (G.map erGl) n = (routineOf G n).map fun x => (x.1, erRo x.2)
  | [] => rfl
  | .var m p :: G => by
    show routineOf (G.map erGl) n = (routineOf G n).map _
    exact routine_er n G
  | .arr m p a b :: G => by
    show routineOf (G.map erGl) n = (routineOf G n).map _
    exact routine_er n G
  | .proc r :: G => by
    show (if eqB r.name.1 n then some (false, erRo r) else routineOf (G.map erGl) n) = (if eqB r.name.1 n then some (false, r) else routineOf G n).map _
    split
    · rfl
    · exact routine_er n G
  | .func r :: G => by
    show (if eqB r.name.1 n then some (true, erRo r) else routineOf (G.map erGl) n) = (if eqB r.name.1 n then some (true, r) else routineOf G n).map _
    split
    · rfl
    · exact routine_er n G

theorem call_er (B : Nat) (G : List Gl) : ∀ (m : Nat), callR B (G.map erGl) m = callR B G m
  | 0 => rfl
  | m + 1 => by
    funext f n vs s
    rw [callR, callR, routine_er, call_er B G m]
    cases routineOf G n with
    | none => rfl
    | some x =>
      obtain ⟨b, r⟩ := x
      simp only [Option.map_some, ro_enter, ro_result]
      have e : (erRo r).body = erSts r.body := rfl
      rw [e, runs_er]

theorem outcome_er (p : Pr) (input : List Int) (B : Nat) : outcome (erPr p) input B = outcome p input B := by
  have e0 : start (erPr p) input = start p input := by
    unfold start erPr
    simp only [List.map_map]
    congr 1
    apply List.map_congr_left
    intro g _
    cases g <;> rfl
  have e : runPr (erPr p) input B = runPr p input B := by
    unfold runPr
    rw [e0]
    show runSts B (callR B (p.globals.map erGl) 30) (erSts p.body) (start p input) = _
    rw [call_er, runs_er]
  unfold outcome
  rw [e]

/-- Two trees that differ in places alone run alike. -/
theorem outcome_alike {p q : Pr} (h : erPr p = erPr q) (input : List Int) (B : Nat) : outcome p input B = outcome q input B := by
  rw [← outcome_er p, h, outcome_er]

end Go.Proofs.YtklobognaldjpaaGreat

namespace Go.Proofs.YtklobognaldjpaaGreat

/-- What stands ahead of a word, and the word, and so on. -/
def spR (gs : Nat → List UInt8) : Nat → List (List UInt8) → List UInt8
  | _, [] => []
  | i, u :: r => gs i ++ (u ++ spR gs (i + 1) r)
def spT (gs : Nat → List UInt8) : List (List UInt8) → List UInt8
  | [] => []
  | t :: r => t ++ spR gs 0 r

/-- What may stand between two tokens. -/
structure GapOk (g : List UInt8) : Prop where
  gapl : GapL g
  brk : ∃ c r, g = c :: r ∧ (c = 32 ∨ c = 10 ∨ c = 123)

theorem lex_sp (gs : Nat → List UInt8) (hg : ∀ i, GapOk (gs i)) : ∀ (r : List (List UInt8)) (t : List UInt8) (L : List UInt8) (q i : Nat), t ∈ vocW → (∀ u ∈ r, u ∈ vocW) → L.drop q = t ++ spR gs i r → ∃ p, lexAt L q = .ok (toksF p (t :: r) ++ [overAt L.length])
  | [], t, L, q, i, ht, _, h => by
    refine ⟨fun _ => q, ?_⟩
    rw [spR, List.append_nil] at h
    exact lexAt_last (voc_tok ht) h
  | u :: r, t, L, q, i, ht, hr, h => by
    have hu : u ∈ vocW := hr u (by simp)
    have hX : gapSz (u ++ spR gs (i + 1) r) = 0 := voc_gap_all u hu _
    have hp : ∀ p ∈ [(⟨t, (tkOf t).1, (tkOf t).2, gs i⟩ : Pc)], PcOk p := by
      intro p hp
      rw [List.mem_singleton] at hp
      subst hp
      exact ⟨voc_tok ht, (hg i).gapl, (hg i).brk⟩
    have el : lay [(⟨t, (tkOf t).1, (tkOf t).2, gs i⟩ : Pc)] = t ++ gs i := by simp [lay]
    have h1 : L.drop q = lay [(⟨t, (tkOf t).1, (tkOf t).2, gs i⟩ : Pc)] ++ (u ++ spR gs (i + 1) r) := by rw [el, h, spR, List.append_assoc]
    have h2 : L.drop (q + (t ++ gs i).length) = u ++ spR gs (i + 1) r := by rw [← List.drop_drop, h1, el, List.drop_left]
    obtain ⟨p, hp2⟩ := lex_sp gs hg r u L (q + (t ++ gs i).length) (i + 1) hu (fun x hx => hr x (by simp [hx])) h2
    rw [lexAt_lay _ L q _ hp h1 hX, el, hp2]
    refine ⟨fun j => match j with | 0 => q | j + 1 => p j, ?_⟩
    simp only [toksP, thenToks, toksF]
    rfl

theorem lexAll_sp (gs : Nat → List UInt8) (hg : ∀ i, GapOk (gs i)) {t : List UInt8} {r : List (List UInt8)} (ht : t ∈ vocW) (hr : ∀ u ∈ r, u ∈ vocW) : ∃ p, lexAll (spT gs (t :: r)) = .ok (toksF p (t :: r) ++ [overAt (spT gs (t :: r)).length]) := by
  show ∃ p, lexAll (t ++ spR gs 0 r) = .ok (toksF p (t :: r) ++ [overAt (t ++ spR gs 0 r).length])
  rw [lexAll_at (show gapSz (t ++ spR gs 0 r) = 0 from voc_gap_all t ht _)]
  exact lex_sp gs hg r t _ 0 0 ht hr rfl

theorem sp_blank : ∀ (r : List (List UInt8)) (i : Nat), spR (fun _ => [32]) i r = r.flatMap (fun u => [32] ++ u)
  | [], _ => rfl
  | u :: r, i => by rw [spR, sp_blank r, List.flatMap_cons, List.append_assoc]

theorem spT_blank (l : List (List UInt8)) : spT (fun _ => [32]) l = joinW l := by
  cases l with
  | nil => rfl
  | cons t r => rw [spT, sp_blank]; rfl

theorem ok_blank : GapOk [32] := ⟨gap_blank, 32, [], rfl, .inl rfl⟩

mutual
def eqEx : Ex → Ex
  | .nil => .nil
  | .num v => .num v
  | .var n _ => .var n 0
  | .elem n _ i => .elem n 0 (eqEx i)
  | .call n _ args => .call n 0 (eqExs args)
  | .bin op l r => .bin op (eqEx l) (eqEx r)
  | .un op e => .un op (eqEx e)
def eqExs : List Ex → List Ex
  | [] => []
  | e :: r => eqEx e :: eqExs r
end
mutual
def eqSt : St → St
  | .nil => .nil
  | .assign n _ e => .assign n 0 (eqEx e)
  | .put n _ i e => .put n 0 (eqEx i) (eqEx e)
  | .proc n _ args => .proc n 0 (eqExs args)
  | .ite c t f => .ite (eqEx c) (eqSt t) (eqSt f)
  | .loop c b => .loop (eqEx c) (eqSt b)
  | .block l => .block (eqSts l)
  | .write e => .write (eqEx e)
  | .read n _ => .read n 0
def eqSts : List St → List St
  | [] => []
  | x :: r => eqSt x :: eqSts r
end

/-- A statement's tree without places. -/
def stE (x : Nat × Nat) : St := eqSt (stT (fun _ => 0) x.1 x.2)
set_option maxRecDepth 1000000 in
theorem st_er_all (p : Nat → Nat) : (List.range 12).map (fun kd => (List.range 9).map fun k => erSt (stT p kd k)) = (List.range 12).map (fun kd => (List.range 9).map fun k => stE (kd, k)) := by kernel_rfl
theorem st_er {kd k : Nat} (hd : kd < 12) (hk : k < 9) (p : Nat → Nat) : erSt (stT p kd k) = stE (kd, k) :=
  map_all (map_all (st_er_all p) (List.mem_range.2 hd)) (List.mem_range.2 hk)

set_option maxRecDepth 1000000 in
theorem hdr_er (p : Nat → Nat) : (hdrG p).map erGl = (hdrG fun _ => 0).map erGl := by kernel_rfl

theorem trees_er {ks : List (Nat × Nat)} {ts : List St} (h : TreesOf ks ts) : KsOk ks → erSts ts = ks.map stE := by
  induction h with
  | nil => intro _; rfl
  | cons x p _ ih =>
    intro hk
    obtain ⟨hd, h9⟩ := hk x (by simp)
    rw [erSts, st_er hd h9, ih (fun z hz => hk z (by simp [hz])), List.map_cons]

/-- A lesson's tree without places. -/
def lesE (ks : List (Nat × Nat)) : Pr := ⟨(hdrG fun _ => 0).map erGl, ks.map stE⟩

/-- Whatever stands between its tokens. -/
theorem les_spaced {ks : List (Nat × Nat)} (hk : KsOk ks) (gs : Nat → List UInt8) (hg : ∀ i, GapOk (gs i)) (hl : (spT gs (lesW ks)).length ≤ 600) : checkP (spT gs (lesW ks)) = (0, 0) ∧ erPr (treeOf (spT gs (lesW ks))) = lesE ks := by
  have hv := les_voc hk
  obtain ⟨t, r, hw⟩ : ∃ t r, lesW ks = t :: r := ⟨_, _, rfl⟩
  obtain ⟨p, hp⟩ := lexAll_sp gs hg (t := t) (r := r) (hv t (by rw [hw]; simp)) (fun u hu => hv u (by rw [hw]; simp [hu]))
  rw [← hw] at hp
  obtain ⟨ts, ht, hpp⟩ := les_whole hk p (spT gs (lesW ks)).length
  constructor
  · unfold checkP
    rw [if_neg (by omega), hp]
    simp only
    rw [hpp, if_pos rfl]
    simp only
    unfold lookPr env0
    simp only
    rw [hdr_look, trees_look hk ht]
    rfl
  · unfold treeOf
    rw [hp]
    simp only
    rw [hpp]
    unfold erPr lesE
    simp only
    rw [hdr_er, trees_er ht hk]

/-- Two ways to lay a lesson out run alike. -/
theorem les_alike {ks : List (Nat × Nat)} (hk : KsOk ks) (gs hs : Nat → List UInt8) (hg : ∀ i, GapOk (gs i)) (hh : ∀ i, GapOk (hs i)) (hl : (spT gs (lesW ks)).length ≤ 600) (hl2 : (spT hs (lesW ks)).length ≤ 600) (input : List Int) (B : Nat) :
    outcome (treeOf (spT gs (lesW ks))) input B = outcome (treeOf (spT hs (lesW ks))) input B :=
  outcome_alike (by rw [(les_spaced hk gs hg hl).2, (les_spaced hk hs hh hl2).2]) input B

/-- The six gaps. -/
def gapOf (n : Nat) : List UInt8 := [[32], [10], [123, 125], [32, 32], [123, 59, 125], [32, 123, 101, 110, 100, 46, 125, 10]].getD n [32]

theorem gap_one {a : List UInt8} (ha : a ≠ []) (h : ∀ X, gapSz (a ++ X) = a.length) : GapL a := by
  have := GapL.step a [] ha (fun X => by rw [List.nil_append]; exact h X) .nil
  simpa using this

theorem gap_ok : ∀ n, GapOk (gapOf n)
  | 0 => ok_blank
  | 1 => ⟨gap_one (by simp [gapOf]) (fun X => by kernel_rfl), 10, [], rfl, .inr (.inl rfl)⟩
  | 2 => ⟨gap_one (by simp [gapOf]) (fun X => by kernel_rfl), 123, _, rfl, .inr (.inr rfl)⟩
  | 3 => ⟨GapL.step [32] [32] (by simp) (fun X => by kernel_rfl) gap_blank, 32, _, rfl, .inl rfl⟩
  | 4 => ⟨gap_one (by simp [gapOf]) (fun X => by kernel_rfl), 123, _, rfl, .inr (.inr rfl)⟩
  | 5 => ⟨GapL.step [32] [123, 101, 110, 100, 46, 125, 10] (by simp) (fun X => by kernel_rfl) (GapL.step [123, 101, 110, 100, 46, 125] [10] (by simp) (fun X => by kernel_rfl) (gap_one (by simp) (fun X => by kernel_rfl))), 32, _, rfl, .inl rfl⟩
  | _ + 6 => ok_blank

end Go.Proofs.YtklobognaldjpaaGreat
