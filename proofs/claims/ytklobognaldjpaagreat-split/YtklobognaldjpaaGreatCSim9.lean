/- Plain: in a program in whose names nothing is wrong, the maker of code knows each name. Plain: a program in which nothing is wrong, compiled and run by the machine, comes to what the tree says. Plain: -/
import Derived.Test.YtklobognaldjpaaGreatCSim6
import Derived.Test.YtklobognaldjpaaGreatCWh2
namespace Go.Proofs.YtklobognaldjpaaGreat
theorem eqB_iff {a b : ByteArray} : eqB a b = true ↔ a.toList = b.toList := by unfold eqB; simp
theorem eqB_trans {a b c : ByteArray} (h : eqB a b = true) (h2 : eqB c b = true) : eqB a c = true := by rw [eqB_iff] at *; rw [h, h2]
def syOf : Gl -> Sy
 | .var n _ => ⟨n, 0, 0⟩
 | .arr n _ _ _ => ⟨n, 1, 0⟩
 | .proc r => ⟨r.name.1, 2, r.params.length⟩
 | .func r => ⟨r.name.1, 3, r.params.length⟩
structure Knows (env : Env) (E : CE) (gs : List (ByteArray × Nat)) (hn : List ByteArray) (okC : Bool -> ByteArray -> Nat -> Prop) : Prop where
 var : ∀ n, (env.kindIx n).1 = 0 -> okVar E gs hn n
 arr : ∀ n, (env.kindIx n).1 = 1 -> okArr E gs n
 proc : ∀ n, (env.kindIx n).1 = 2 -> okC false n (env.args n)
 func : ∀ n, (env.kindIx n).1 = 3 -> okC true n (env.args n)
 set : ∀ n, (env.kindIx n).1 = 0 -> okSet E gs hn n
 res : ∀ n, env.isRes n = true -> okSet E gs hn n
section
variable {env : Env} {E : CE} {gs : List (ByteArray × Nat)} {hn : List ByteArray} {okC : Bool -> ByteArray -> Nat -> Prop}
theorem wantF_ok {n : ByteArray} {p k : Nat} (h : wantF env n p k = none) : (env.kindIx n).1 = k := by
 unfold wantF at h; split at h
 ·assumption
 ·cases h
theorem callF_ok {n : ByteArray} {p k many : Nat} (h : callF env n p k many = none) : (env.kindIx n).1 = k /\ many = env.args n := by
 unfold callF at h; split at h
 ·split at h
  ·exact ⟨by assumption, by assumption⟩
  ·cases h
 ·cases h
mutual
theorem known_ex (hk : Knows env E gs hn okC) : ∀ e, lookEx env e = none -> WhEx e -> okEx E gs hn okC e
 | .nil, _, hw => by rw [WhEx] at hw; exact hw.elim
 | .num v, _, hw => by rw [WhEx] at hw; rw [okEx]; exact hw
 | .var n p, h, _ => by rw [lookEx] at h; rw [okEx]; exact hk.var n (wantF_ok h)
 | .elem n p i, h, hw => by
  rw [lookEx] at h; rw [WhEx] at hw; rw [okEx]
  exact ⟨hk.arr n (wantF_ok (or_none h).1), known_ex hk i (or_none h).2 hw.2⟩
 | .call n p args, h, hw => by
  rw [lookEx] at h; rw [WhEx] at hw; rw [okEx]
  obtain ⟨h1, h2⟩ := callF_ok (or_none h).1
  exact ⟨by rw [h2]; exact hk.func n h1, known_exs hk args (or_none h).2 hw.2.2⟩
 | .bin _ l r, h, hw => by
  rw [lookEx] at h; rw [WhEx] at hw; rw [okEx]
  exact ⟨known_ex hk l (or_none h).1 hw.1, known_ex hk r (or_none h).2 hw.2⟩
 | .un _ e, h, hw => by
  rw [lookEx] at h; rw [WhEx] at hw; rw [okEx]
  exact known_ex hk e h hw
theorem known_exs (hk : Knows env E gs hn okC) : ∀ l, lookExs env l = none -> WhExs l -> okExs E gs hn okC l
 | [], _, _ => by rw [okExs]; trivial
 | e :: l, h, hw => by
  rw [lookExs] at h; rw [WhExs] at hw; rw [okExs]
  exact ⟨known_ex hk e (or_none h).1 hw.1, known_exs hk l (or_none h).2 hw.2⟩
end
mutual
theorem known_st (hk : Knows env E gs hn okC) : ∀ t, lookSt env t = none -> WhSt t -> okSt E gs hn okC t
 | .nil, _, hw => by rw [WhSt] at hw; exact hw.elim
 | .assign n p e, h, hw => by
  rw [lookSt] at h; rw [WhSt] at hw; rw [okSt]
  refine ⟨?_, known_ex hk e (or_none h).2 hw.2⟩
  have h1 := (or_none h).1
  unfold assignF at h1
  split at h1
  ·exact hk.res n (by assumption)
  ·exact hk.set n (wantF_ok h1)
 | .put n p i e, h, hw => by
  rw [lookSt] at h; rw [WhSt] at hw; rw [okSt]
  obtain ⟨h1, h2⟩ := or_none h
  obtain ⟨h3, h4⟩ := or_none h1
  exact ⟨hk.arr n (wantF_ok h3), known_ex hk i h4 hw.2.1, known_ex hk e h2 hw.2.2⟩
 | .proc n p args, h, hw => by
  rw [lookSt] at h; rw [WhSt] at hw; rw [okSt]
  obtain ⟨h1, h2⟩ := callF_ok (or_none h).1
  exact ⟨by rw [h2]; exact hk.proc n h1, known_exs hk args (or_none h).2 hw.2.2⟩
 | .ite c t f, h, hw => by
  rw [lookSt] at h; rw [WhSt] at hw; rw [okSt]
  obtain ⟨h1, h2⟩ := or_none h
  obtain ⟨h3, h4⟩ := or_none h1
  refine ⟨known_ex hk c h3 hw.1, known_st hk t h4 hw.2.1, fun hf => ?_⟩
  rcases hw.2.2 with h5 | h5
  ·rw [h5] at hf; cases hf
  ·exact known_st hk f h2 h5
 | .loop c b, h, hw => by
  rw [lookSt] at h; rw [WhSt] at hw; rw [okSt]
  exact ⟨known_ex hk c (or_none h).1 hw.1, known_st hk b (or_none h).2 hw.2⟩
 | .block l, h, hw => by
  rw [lookSt] at h; rw [WhSt] at hw; rw [okSt]
  exact known_sts hk l h hw.2
 | .write e, h, hw => by
  rw [lookSt] at h; rw [WhSt] at hw; rw [okSt]
  exact known_ex hk e h hw
 | .read n p, h, hw => by
  rw [lookSt] at h; rw [okSt]
  exact hk.set n (wantF_ok h)
theorem known_sts (hk : Knows env E gs hn okC) : ∀ l, lookSts env l = none -> WhSts l -> okSts E gs hn okC l
 | [], _, _ => by rw [okSts]; trivial
 | x :: l, h, hw => by
  rw [lookSts] at h; rw [WhSts] at hw; rw [okSts]
  exact ⟨known_st hk x (or_none h).1 hw.1, known_sts hk l (or_none h).2 hw.2⟩
end
end
theorem findBelow_some {l : List Sy} {n : ByteArray} : ∀ {i k : Nat}, findBelow l n i = some k -> k < i /\ eqB (l.getD k default).name n = true
 | 0, k, h => by simp [findBelow] at h
 | i + 1, k, h => by
  rw [findBelow] at h
  split at h
  ·rename_i he; cases h; exact ⟨by omega, he⟩
  ·obtain ⟨h1, h2⟩ := findBelow_some h; exact ⟨by omega, h2⟩
theorem findBelow_none {l : List Sy} {n : ByteArray} : ∀ {i : Nat}, findBelow l n i = none -> ∀ k, k < i -> eqB (l.getD k default).name n = false
 | 0, _, k, hk => by omega
 | i + 1, h, k, hk => by
  rw [findBelow] at h
  split at h
  ·cases h
  ·rename_i he
   by_cases e : k = i
   ·subst e; unfold eqB; simpa using he
   ·exact findBelow_none h k (by omega)
theorem look_names : ∀ (l : List (ByteArray × Nat)) (E : Env), (lookNames E l).2 = none -> (lookNames E l).1 = { E with here := E.here ++ l.map fun x => ⟨x.1, 0, 0⟩ }
 | [], E, _ => by simp [lookNames]
 | x :: l, E, h => by
  rw [lookNames] at h ⊢
  obtain ⟨h1, h2⟩ := or_none h
  have e : (declF E true x.1 x.2 0 0).1 = { E with here := E.here ++ [⟨x.1, 0, 0⟩] } := by
   unfold declF at h1 ⊢
   split at h1
   ·cases h1
   ·rename_i hz; rw [if_neg hz]; rfl
  rw [look_names l _ h2, e]
  simp
theorem decl_out {E : Env} {n : ByteArray} {p kind args : Nat} (h : (declF E false n p kind args).2 = none) : (declF E false n p kind args).1 = { E with glob := E.glob ++ [⟨n, kind, args⟩], fresh := true } /\ findLast E.glob n = none := by
 unfold declF at h ⊢
 split at h
 ·cases h
 ·rename_i hz
  rw [if_neg hz]
  exact ⟨rfl, by
   have : ¬ (findLast E.glob n).isSome = true := hz
   cases hf : findLast E.glob n with
   | none => rfl
   | some k => rw [hf] at this; exact absurd rfl this⟩
def bodyEnv (l : List Sy) (r : Ro) : Env := ⟨l, r.cells.map fun n => ⟨n, 0, 0⟩, some (l.length - 1), false⟩
theorem look_ro {E : Env} {kind : Nat} {r : Ro} (h : (lookRo E kind r).2 = none) (hh : E.here = []) :
  (lookRo E kind r).1 = ⟨E.glob ++ [⟨r.name.1, kind, r.params.length⟩], [], none, false⟩ /\ findLast E.glob r.name.1 = none /\ lookSts (bodyEnv (E.glob ++ [⟨r.name.1, kind, r.params.length⟩]) r) r.body = none := by
 unfold lookRo at h ⊢
 obtain ⟨h1, h2⟩ := or_none h
 obtain ⟨h3, h4⟩ := or_none h1
 unfold lookHead at h3 h4 h2 ⊢
 obtain ⟨h5, h6⟩ := or_none h3
 obtain ⟨h7, h8⟩ := or_none h5
 obtain ⟨d1, d2⟩ := decl_out h7
 simp only at h4 h2 h6 ⊢
 have n1 := look_names _ _ h6
 have n2 := look_names _ _ h4
 rw [n2, n1, d1] at h2 ⊢
 simp only at h2 ⊢
 refine ⟨rfl, d2, ?_⟩
 have e : bodyEnv (E.glob ++ [⟨r.name.1, kind, r.params.length⟩]) r = ({ ({ ({ E with glob := E.glob ++ [⟨r.name.1, kind, r.params.length⟩], fresh := true } : Env) with here := E.here ++ r.params.map fun x => ⟨x.1, 0, 0⟩ } : Env) with here := E.here ++ (r.params.map fun x => (⟨x.1, 0, 0⟩ : Sy)) ++ r.locals.map fun x => ⟨x.1, 0, 0⟩ } : Env).enter := by
  unfold bodyEnv Env.enter Ro.cells
  simp [hh]
  rfl
 rw [e]
 exact h2
def Looked (l : List Sy) : Gl -> Prop
 | .var _ _ => True
 | .arr _ _ size _ => 1 <= size /\ size <= 20
 | .proc r => lookSts (bodyEnv (l ++ [⟨r.name.1, 2, r.params.length⟩]) r) r.body = none
 | .func r => lookSts (bodyEnv (l ++ [⟨r.name.1, 3, r.params.length⟩]) r) r.body = none
theorem look_gl {E : Env} {g : Gl} (h : (lookGl E g).2 = none) (hh : E.here = []) (hi : E.inside = none) :
  (lookGl E g).1.glob = E.glob ++ [syOf g] /\ (lookGl E g).1.here = [] /\ (lookGl E g).1.inside = none /\ findLast E.glob (syOf g).name = none /\ Looked E.glob g := by
 cases g with
 | var n p =>
  obtain ⟨d1, d2⟩ := decl_out (show (declF E false n p 0 0).2 = none from h)
  show (declF E false n p 0 0).1.glob = _ /\ (declF E false n p 0 0).1.here = _ /\ (declF E false n p 0 0).1.inside = _ /\ _
  rw [d1]
  exact ⟨rfl, hh, hi, d2, trivial⟩
 | arr n p size at_ =>
  obtain ⟨h1, h2⟩ := or_none (show ((declF E false n p 1 0).2.or (sizeF size at_)) = none from h)
  obtain ⟨d1, d2⟩ := decl_out h1
  show (declF E false n p 1 0).1.glob = _ /\ (declF E false n p 1 0).1.here = _ /\ (declF E false n p 1 0).1.inside = _ /\ _
  rw [d1]
  refine ⟨rfl, hh, hi, d2, ?_⟩
  unfold sizeF at h2
  split at h2
  ·cases h2
  ·show 1 <= size /\ size <= 20; omega
 | proc r =>
  obtain ⟨h1, h2, h3⟩ := look_ro (show (lookRo E 2 r).2 = none from h) hh
  show (lookRo E 2 r).1.glob = _ /\ (lookRo E 2 r).1.here = _ /\ (lookRo E 2 r).1.inside = _ /\ _
  rw [h1]
  exact ⟨rfl, rfl, rfl, h2, h3⟩
 | func r =>
  obtain ⟨h1, h2, h3⟩ := look_ro (show (lookRo E 3 r).2 = none from h) hh
  show (lookRo E 3 r).1.glob = _ /\ (lookRo E 3 r).1.here = _ /\ (lookRo E 3 r).1.inside = _ /\ _
  rw [h1]
  exact ⟨rfl, rfl, rfl, h2, h3⟩
theorem look_gls : ∀ (l : List Gl) (E : Env), (lookGls E l).2 = none -> E.here = [] -> E.inside = none ->
  (lookGls E l).1.glob = E.glob ++ l.map syOf /\ (lookGls E l).1.here = [] /\ (lookGls E l).1.inside = none /\
  ∀ k g, l[k]? = some g -> findLast (E.glob ++ (l.take k).map syOf) (syOf g).name = none /\ Looked (E.glob ++ (l.take k).map syOf) g
 | [], E, _, hh, hi => by
  rw [lookGls]
  exact ⟨by simp, hh, hi, fun k g hk => by simp at hk⟩
 | g :: l, E, h, hh, hi => by
  rw [lookGls] at h ⊢
  obtain ⟨h1, h2⟩ := or_none h
  obtain ⟨a1, a2, a3, a4, a5⟩ := look_gl h1 hh hi
  obtain ⟨b1, b2, b3, b4⟩ := look_gls l _ h2 a2 a3
  refine ⟨by rw [b1, a1]; simp, b2, b3, fun k g' hk => ?_⟩
  cases k with
  | zero =>
   simp at hk
   subst hk
   simpa using ⟨a4, a5⟩
  | succ k =>
   have := b4 k g' (by simpa using hk)
   rw [a1] at this
   simpa using this
def gval (c : CG) : Gl -> Nat × Nat
 | .var _ _ => (c.places, 1)
 | .arr _ _ size _ => (c.places, size)
 | .proc _ => (c.words.length, 0)
 | .func _ => (c.words.length, 0)
def glSize : Gl -> Nat
 | .var _ _ => 1
 | .arr _ _ size _ => size
 | _ => 0
def glCode (c : CG) : Gl -> List Nat
 | .proc r => roCode false (putG c.g r.name.1 (c.words.length, 0)) r c.words.length
 | .func r => roCode true (putG c.g r.name.1 (c.words.length, 0)) r c.words.length
 | _ => []
theorem cGl_form (c : CG) (g : Gl) : cGl c g = ⟨c.words ++ glCode c g, c.places + glSize g, putG c.g (syOf g).name (gval c g)⟩ := by
 cases g with
 | var n p => simp [cGl, glCode, glSize, gval, syOf]
 | arr n p s a => simp [cGl, glCode, glSize, gval, syOf]
 | proc r => simp [cGl, glCode, glSize, gval, syOf, roCode]
 | func r => simp [cGl, glCode, glSize, gval, syOf, roCode]
theorem cGls_append : ∀ (a b : List Gl) (c : CG), cGls c (a ++ b) = cGls (cGls c a) b
 | [], _, _ => rfl
 | x :: a, b, c => by show cGls (cGl c x) (a ++ b) = _; rw [cGls_append a b]; rfl
def cgAt (G : List Gl) (k : Nat) : CG := cGls cg0 (G.take k)
def gl0 : Gl := .var default 0
theorem cgAt_succ {G : List Gl} {k : Nat} (h : k < G.length) : cgAt G (k + 1) = cGl (cgAt G k) (G.getD k gl0) := by
 unfold cgAt
 rw [List.take_succ_eq_append_getElem h, cGls_append]
 have e : G.getD k gl0 = G[k] := by simp [List.getD, h]
 rw [e]; rfl
def shapeG (G : List Gl) : List (ByteArray × Nat) := shapeOf (G.map glob0)
theorem shapeG_get {G : List Gl} {k : Nat} (h : k < G.length) : (shapeG G)[k]? = some ((syOf (G.getD k gl0)).name, glSize (G.getD k gl0)) := by
 unfold shapeG shapeOf
 rw [List.map_map, List.getElem?_map, List.getElem?_eq_getElem h]
 have e : G.getD k gl0 = G[k] := by simp [List.getD, h]
 rw [e]
 simp only [Option.map_some, Function.comp]
 congr 1
 cases G[k] <;> simp [glob0, syOf, glSize]
theorem shapeG_len (G : List Gl) : (shapeG G).length = G.length := by simp [shapeG, shapeOf]
theorem off_succ {gs : List (ByteArray × Nat)} {k : Nat} {x : ByteArray × Nat} (h : gs[k]? = some x) : offOf gs (k + 1) = offOf gs k + x.2 := by
 unfold offOf
 have hk := (List.getElem?_eq_some_iff.1 h).1
 rw [List.take_succ_eq_append_getElem hk, List.map_append, List.sum_append]
 have : gs[k] = x := by rw [List.getElem?_eq_getElem hk] at h; exact Option.some.inj h
 rw [this]; simp
theorem cg_places {G : List Gl} : ∀ k, k <= G.length -> (cgAt G k).places = offOf (shapeG G) k
 | 0, _ => by simp [cgAt, cGls, cg0, offOf]
 | k + 1, h => by
  rw [cgAt_succ (by omega), cGl_form, off_succ (shapeG_get (by omega))]
  show (cgAt G k).places + _ = _
  rw [cg_places k (by omega)]
theorem cg_words {G : List Gl} {i : Nat} : ∀ k, i <= k -> k <= G.length -> ∃ t, (cgAt G k).words = (cgAt G i).words ++ t
 | 0, h, _ => by
  have : i = 0 := by omega
  subst this; exact ⟨[], by simp⟩
 | k + 1, h, hk => by
  by_cases e : i = k + 1
  ·subst e; exact ⟨[], by simp⟩
  ·obtain ⟨t, ht⟩ := cg_words (G := G) (i := i) k (by omega) (by omega)
   rw [cgAt_succ (by omega), cGl_form]
   exact ⟨t ++ glCode (cgAt G k) (G.getD k gl0), by show (cgAt G k).words ++ _ = _; rw [ht, List.append_assoc]⟩
def nmG (G : List Gl) (i : Nat) : ByteArray := (syOf (G.getD i gl0)).name
section
variable {G : List Gl} (hA : ∀ i j, i < j -> j < G.length -> eqB (nmG G i) (nmG G j) = false)
include hA
theorem apart_eq {i j : Nat} {n : ByteArray} (hi : i < G.length) (hj : j < G.length) (h1 : eqB (nmG G i) n = true) (h2 : eqB (nmG G j) n = true) : i = j := by
 have h3 := eqB_trans h1 h2
 have h4 := eqB_trans h2 h1
 rcases Nat.lt_trichotomy i j with h | h | h
 ·rw [hA i j h hj] at h3; cases h3
 ·exact h
 ·rw [hA j i h hi] at h4; cases h4
theorem cg_name {i : Nat} {n : ByteArray} (hn : eqB (nmG G i) n = true) : ∀ k, i < k -> k <= G.length -> (cgAt G k).g n = gval (cgAt G i) (G.getD i gl0)
 | 0, h, _ => by omega
 | k + 1, h, hk => by
  rw [cgAt_succ (by omega), cGl_form]
  show putG (cgAt G k).g (nmG G k) (gval (cgAt G k) (G.getD k gl0)) n = _
  unfold putG
  by_cases e : i = k
  ·subst e; rw [if_pos hn]
  ·have : ¬ eqB (nmG G k) n = true := fun h2 => e (apart_eq hA (by omega) (by omega) hn h2)
   rw [if_neg this]
   exact cg_name hn k (by omega) (by omega)
theorem shape_find {i : Nat} {n : ByteArray} (hi : i < G.length) (hn : eqB (nmG G i) n = true) : (shapeG G).findIdx? (fun x => eqB x.1 n) = some i := by
 rw [List.findIdx?_eq_some_iff_getElem]
 have hl := shapeG_len G
 refine ⟨by omega, ?_, fun j hj => ?_⟩
 ·have := shapeG_get hi
  rw [List.getElem?_eq_getElem (by omega)] at this
  rw [Option.some.inj this]; exact hn
 ·have h2 := shapeG_get (G := G) (k := j) (by omega)
  rw [List.getElem?_eq_getElem (by omega)] at h2
  have h3 : (shapeG G)[j].1 = nmG G j := by rw [Option.some.inj h2]; rfl
  simp only [h3, Bool.not_eq_true]
  cases he : eqB (nmG G j) n
  ·rfl
  ·exact absurd (apart_eq hA (by omega) hi he hn) (by omega)
end
theorem routine_at : ∀ {G : List Gl} {i : Nat} {n : ByteArray}, (∀ i j, i < j -> j < G.length -> eqB (nmG G i) (nmG G j) = false) -> i < G.length -> eqB (nmG G i) n = true ->
  (∀ r, G.getD i gl0 = .proc r -> routineOf G n = some (false, r)) /\ (∀ r, G.getD i gl0 = .func r -> routineOf G n = some (true, r))
 | [], i, n, _, hi, _ => by simp at hi
 | g :: G, 0, n, hA, hi, hn => by
  constructor
  ·intro r hr
   have hr' : g = .proc r := hr
   subst hr'
   have : eqB r.name.1 n = true := hn
   simp [routineOf, this]
  ·intro r hr
   have hr' : g = .func r := hr
   subst hr'
   have : eqB r.name.1 n = true := hn
   simp [routineOf, this]
 | g :: G, i + 1, n, hA, hi, hn => by
  have h0 : eqB (syOf g).name n = false := by
   cases he : eqB (syOf g).name n
   ·rfl
   ·have := hA 0 (i + 1) (by omega) hi
    have h2 : eqB (nmG (g :: G) 0) (nmG (g :: G) (i + 1)) = true := eqB_trans (b := n) he hn
    rw [h2] at this; cases this
  have hstep : routineOf (g :: G) n = routineOf G n := by
   cases g with
   | var _ _ => rfl
   | arr _ _ _ _ => rfl
   | proc r => have : eqB r.name.1 n = false := h0; simp [routineOf, this]
   | func r => have : eqB r.name.1 n = false := h0; simp [routineOf, this]
  rw [hstep]
  exact routine_at (G := G) (i := i) (fun a b h1 h2 => hA (a + 1) (b + 1) (by omega) (by simp; omega)) (by simpa using hi) hn
theorem routine_from : ∀ {G : List Gl} {n : ByteArray} {f : Bool} {r : Ro}, routineOf G n = some (f, r) -> ∃ i, i < G.length /\ eqB (nmG G i) n = true /\ G.getD i gl0 = if f then .func r else .proc r
 | [], n, f, r, h => by simp [routineOf] at h
 | .var a b :: G, n, f, r, h => by
  obtain ⟨i, h1, h2, h3⟩ := routine_from (G := G) (show routineOf G n = some (f, r) from h)
  exact ⟨i + 1, by simp; omega, h2, h3⟩
 | .arr a b c d :: G, n, f, r, h => by
  obtain ⟨i, h1, h2, h3⟩ := routine_from (G := G) (show routineOf G n = some (f, r) from h)
  exact ⟨i + 1, by simp; omega, h2, h3⟩
 | .proc q :: G, n, f, r, h => by
  rw [routineOf] at h
  split at h
  ·rename_i he; cases h; exact ⟨0, by simp, he, rfl⟩
  ·obtain ⟨i, h1, h2, h3⟩ := routine_from (G := G) h
   exact ⟨i + 1, by simp; omega, h2, h3⟩
 | .func q :: G, n, f, r, h => by
  rw [routineOf] at h
  split at h
  ·rename_i he; cases h; exact ⟨0, by simp, he, rfl⟩
  ·obtain ⟨i, h1, h2, h3⟩ := routine_from (G := G) h
   exact ⟨i + 1, by simp; omega, h2, h3⟩
theorem here_find {cells : List ByteArray} {n : ByteArray} : (findLast (cells.map fun n => (⟨n, 0, 0⟩ : Sy)) n = none -> ∀ x ∈ cells, eqB x n = false) /\ (∀ k, findLast (cells.map fun n => (⟨n, 0, 0⟩ : Sy)) n = some k -> ∃ i, cells.findIdx? (fun x => eqB x n) = some i) := by
 constructor
 ·intro h x hx
  obtain ⟨k, hk, rfl⟩ := List.getElem_of_mem hx
  have := findBelow_none h k (by simpa using hk)
  simpa [List.getD, hk] using this
 ·intro k h
  obtain ⟨h1, h2⟩ := findBelow_some h
  have hk : k < cells.length := by simpa using h1
  cases hf : cells.findIdx? (fun x => eqB x n) with
  | some i => exact ⟨i, rfl⟩
  | none =>
   rw [List.findIdx?_eq_none_iff] at hf
   have := hf cells[k] (List.getElem_mem hk)
   simp [List.getD, hk] at h2
   rw [h2] at this; cases this
section
variable {G : List Gl}
def pcG (G : List Gl) (n : ByteArray) : Nat := ((cgAt G G.length).g n).1
theorem getD_sy {l : List Gl} {i : Nat} (hi : i < l.length) : (l.map syOf).getD i default = syOf (l.getD i gl0) := by
 simp [List.getD, hi]
theorem take_getD {j i : Nat} (hi : i < j) (hj : j <= G.length) : (G.take j).getD i gl0 = G.getD i gl0 := by
 simp [List.getD, hi, show i < G.length by omega]
theorem glob_at {n : ByteArray} {j i : Nat} (hj : j <= G.length) (h : findLast ((G.take j).map syOf) n = some i) : i < j /\ eqB (nmG G i) n = true /\ ((G.take j).map syOf).getD i default = syOf (G.getD i gl0) := by
 obtain ⟨h1, h2⟩ := findBelow_some h
 have hl : ((G.take j).map syOf).length = j := by simp; omega
 rw [hl] at h1
 have e : ((G.take j).map syOf).getD i default = syOf (G.getD i gl0) := by
  rw [getD_sy (by simp; omega), take_getD h1 hj]
 rw [e] at h2
 exact ⟨h1, h2, e⟩
variable (hA : ∀ i j, i < j -> j < G.length -> eqB (nmG G i) (nmG G j) = false) (hN : ∀ i, i < G.length -> (nmG G i).toList ≠ [])
include hA
theorem var_out {n : ByteArray} {j i : Nat} (hj : j <= G.length) (hi : i < j) (hn : eqB (nmG G i) n = true) (hk : (syOf (G.getD i gl0)).kind = 0) :
  ∃ k, (shapeG G).findIdx? (fun x => eqB x.1 n) = some k /\ ((shapeG G).getD k default).2 = 1 /\ ((cgAt G j).g n).1 = offOf (shapeG G) k := by
 refine ⟨i, shape_find hA (by omega) hn, ?_, ?_⟩
 ·rw [List.getD_eq_getElem?_getD, shapeG_get (by omega)]
  show glSize (G.getD i gl0) = 1
  cases h : G.getD i gl0 <;> rw [h] at hk <;> simp [syOf] at hk
  rfl
 ·rw [cg_name hA hn j hi hj]
  cases h : G.getD i gl0 <;> rw [h] at hk <;> simp [syOf] at hk
  show (cgAt G i).places = _
  exact cg_places i (by omega)
theorem arr_out {n : ByteArray} {j i : Nat} (hj : j <= G.length) (hi : i < j) (hn : eqB (nmG G i) n = true) (hk : (syOf (G.getD i gl0)).kind = 1) :
  ∃ k, (shapeG G).findIdx? (fun x => eqB x.1 n) = some k /\ (cgAt G j).g n = (offOf (shapeG G) k, ((shapeG G).getD k default).2) := by
 refine ⟨i, shape_find hA (by omega) hn, ?_⟩
 rw [List.getD_eq_getElem?_getD, shapeG_get (by omega), cg_name hA hn j hi hj]
 show _ = (_, glSize (G.getD i gl0))
 cases h : G.getD i gl0 <;> rw [h] at hk <;> simp [syOf] at hk
 show ((cgAt G i).places, _) = _
 rw [cg_places i (by omega)]
 rfl
theorem call_out {E : CE} {n : ByteArray} {j i : Nat} {f : Bool} (hE : E.g = (cgAt G j).g) (hj : j <= G.length) (hi : i < j) (hn : eqB (nmG G i) n = true) (hk : (syOf (G.getD i gl0)).kind = if f then 3 else 2) :
  okCE G (pcG G) E f n (syOf (G.getD i gl0)).args := by
 obtain ⟨r1, r2⟩ := routine_at hA (show i < G.length by omega) hn
 have e1 := cg_name hA hn j hi hj
 have e2 := cg_name hA hn G.length (by omega) (Nat.le_refl _)
 cases f with
 | false =>
  cases h : G.getD i gl0 <;> rw [h] at hk <;> simp [syOf] at hk
  rename_i r
  exact ⟨r, r1 r h, rfl, by rw [hE, e1]; unfold pcG; rw [e2]⟩
 | true =>
  cases h : G.getD i gl0 <;> rw [h] at hk <;> simp [syOf] at hk
  rename_i r
  exact ⟨r, r2 r h, rfl, by rw [hE, e1]; unfold pcG; rw [e2]⟩
include hN
theorem knows_top : Knows ⟨G.map syOf, [], none, false⟩ (ceTop (cgAt G G.length)) (shapeG G) [] (okCE G (pcG G) (ceTop (cgAt G G.length))) := by
 have hT : (G.take G.length).map syOf = G.map syOf := by rw [List.take_length]
 have key : ∀ (n : ByteArray) (k : Int), 0 <= k -> ((⟨G.map syOf, [], none, false⟩ : Env).kindIx n).1 = k -> ∃ i, i < G.length /\ eqB (nmG G i) n = true /\ ((syOf (G.getD i gl0)).kind : Int) = k /\ (⟨G.map syOf, [], none, false⟩ : Env).args n = (syOf (G.getD i gl0)).args := by
  intro n k h0 h
  unfold Env.kindIx at h
  have e0 : findLast ([] : List Sy) n = none := rfl
  simp only [e0] at h
  cases hf : findLast (G.map syOf) n with
  | none => rw [hf] at h; simp at h; omega
  | some i =>
   rw [hf] at h
   rw [<- hT] at hf
   obtain ⟨h1, h2, h3⟩ := glob_at (Nat.le_refl _) hf
   rw [hT] at h3 hf
   refine ⟨i, h1, h2, by rw [<- h3]; exact h, ?_⟩
   unfold Env.args
   rw [hf]
   simp only
   rw [h3]
 have hres : ∀ n i, i < G.length -> eqB (nmG G i) n = true -> eqB n (⟨#[]⟩ : ByteArray) = false := by
  intro n i hi hn
  cases he : eqB n (⟨#[]⟩ : ByteArray)
  ·rfl
  ·rw [eqB_iff] at he hn
   exact absurd (by rw [hn, he]; show (bs []).toList = []; rw [bsl']) (hN i hi)
 refine ⟨?_, ?_, ?_, ?_, ?_, ?_⟩
 ·intro n h
  obtain ⟨i, hi, hn, hk, _⟩ := key n 0 (by omega) h
  obtain ⟨k, a1, a2, a3⟩ := var_out hA (Nat.le_refl _) hi hn (by omega)
  exact .inr ⟨rfl, rfl, k, a1, a2, a3⟩
 ·intro n h
  obtain ⟨i, hi, hn, hk, _⟩ := key n 1 (by omega) h
  exact arr_out hA (Nat.le_refl _) hi hn (by omega)
 ·intro n h
  obtain ⟨i, hi, hn, hk, ha⟩ := key n 2 (by omega) h
  rw [ha]
  exact call_out hA (f := false) rfl (Nat.le_refl _) hi hn (by show _ = 2; omega)
 ·intro n h
  obtain ⟨i, hi, hn, hk, ha⟩ := key n 3 (by omega) h
  rw [ha]
  exact call_out hA (f := true) rfl (Nat.le_refl _) hi hn (by show _ = 3; omega)
 ·intro n h
  obtain ⟨i, hi, hn, hk, _⟩ := key n 0 (by omega) h
  obtain ⟨k, a1, a2, a3⟩ := var_out hA (Nat.le_refl _) hi hn (by omega)
  exact .inr ⟨rfl, rfl, hres n i hi hn, k, a1, a2, a3⟩
 ·intro n h
  unfold Env.isRes at h
  simp at h
theorem knows_body {k : Nat} {r : Ro} {f : Bool} (hk : k < G.length) (hg : G.getD k gl0 = if f then .func r else .proc r) :
  Knows (bodyEnv ((G.take (k + 1)).map syOf) r) (ceOf f (cgAt G (k + 1)).g r) (shapeG G) (hnOf f r) (okCE G (pcG G) (ceOf f (cgAt G (k + 1)).g r)) := by
 have hnm : nmG G k = r.name.1 := by unfold nmG; rw [hg]; cases f <;> rfl
 have hkd : (syOf (G.getD k gl0)).kind = if f then 3 else 2 := by rw [hg]; cases f <;> rfl
 have hfind : ∀ n i, r.cells.findIdx? (fun x => eqB x n) = some i -> (hnOf f r).findIdx? (fun x => eqB x n) = some i := by
  intro n i h
  unfold hnOf
  rw [List.findIdx?_append, h]; rfl
 have hnone : ∀ n, (∀ x ∈ r.cells, eqB x n = false) -> r.cells.findIdx? (fun x => eqB x n) = none := by
  intro n h; rw [List.findIdx?_eq_none_iff]; exact h
 have key : ∀ (n : ByteArray) (d : Int), 0 <= d -> ((bodyEnv ((G.take (k + 1)).map syOf) r).kindIx n).1 = d ->
   (d = 0 /\ ∃ i, r.cells.findIdx? (fun x => eqB x n) = some i) ∨ ((∀ x ∈ r.cells, eqB x n = false) /\ ∃ i, i < k + 1 /\ eqB (nmG G i) n = true /\ ((syOf (G.getD i gl0)).kind : Int) = d /\ (bodyEnv ((G.take (k + 1)).map syOf) r).args n = (syOf (G.getD i gl0)).args) := by
  intro n d h0 h
  unfold Env.kindIx bodyEnv at h
  simp only at h
  cases hf : findLast (r.cells.map fun n => (⟨n, 0, 0⟩ : Sy)) n with
  | some i =>
   rw [hf] at h
   simp at h
   exact .inl ⟨h.symm, here_find.2 i hf⟩
  | none =>
   rw [hf] at h
   simp only at h
   refine .inr ⟨here_find.1 hf, ?_⟩
   cases hf2 : findLast ((G.take (k + 1)).map syOf) n with
   | none => rw [hf2] at h; simp at h; omega
   | some i =>
    rw [hf2] at h
    obtain ⟨h1, h2, h3⟩ := glob_at (by omega) hf2
    refine ⟨i, h1, h2, by rw [<- h3]; exact h, ?_⟩
    unfold Env.args bodyEnv
    simp only
    rw [hf2]
    simp only
    rw [h3]
 have hother : ∀ n i, i < k + 1 -> eqB (nmG G i) n = true -> (syOf (G.getD i gl0)).kind = 0 -> eqB r.name.1 n = false := by
  intro n i hi hn h0
  cases he : eqB r.name.1 n
  ·rfl
  ·rw [<- hnm] at he
   have := apart_eq hA (by omega) hk hn he
   subst this
   rw [hkd] at h0
   cases f <;> simp at h0
 have hhn : ∀ n, (∀ x ∈ r.cells, eqB x n = false) -> eqB r.name.1 n = false -> (hnOf f r).findIdx? (fun x => eqB x n) = none := by
  intro n h1 h2
  rw [List.findIdx?_eq_none_iff]
  intro x hx
  unfold hnOf at hx
  rcases List.mem_append.1 hx with hx | hx
  ·exact h1 x hx
  ·split at hx
   ·simp at hx; subst hx; exact h2
   ·simp at hx
 have hres : ∀ n i, i < k + 1 -> eqB (nmG G i) n = true -> eqB r.name.1 n = false -> eqB n (ceOf f (cgAt G (k + 1)).g r).res = false := by
  intro n i hi hn h2
  show eqB n (if f then r.name.1 else ⟨#[]⟩) = false
  cases f with
  | true =>
   simp only [if_true]
   cases he : eqB n r.name.1
   ·rfl
   ·rw [eqB_iff] at he
    have : eqB r.name.1 n = true := eqB_iff.2 he.symm
    rw [this] at h2; cases h2
  | false =>
   cases he : eqB n (⟨#[]⟩ : ByteArray)
   ·exact he
   ·rw [eqB_iff] at he hn
    exact absurd (by rw [hn, he]; show (bs []).toList = []; rw [bsl']) (hN i (by omega))
 refine ⟨?_, ?_, ?_, ?_, ?_, ?_⟩
 ·intro n h
  rcases key n 0 (by omega) h with ⟨_, i, hi⟩ | ⟨hc, i, hi, hn, hkk, _⟩
  ·exact .inl ⟨i, hfind n i hi, hi⟩
  ·obtain ⟨q, a1, a2, a3⟩ := var_out hA (show k + 1 <= G.length by omega) hi hn (by omega)
   exact .inr ⟨hhn n hc (hother n i hi hn (by omega)), hnone n hc, q, a1, a2, a3⟩
 ·intro n h
  rcases key n 1 (by omega) h with ⟨h0, _⟩ | ⟨hc, i, hi, hn, hkk, _⟩
  ·omega
  ·exact arr_out hA (show k + 1 <= G.length by omega) hi hn (by omega)
 ·intro n h
  rcases key n 2 (by omega) h with ⟨h0, _⟩ | ⟨hc, i, hi, hn, hkk, ha⟩
  ·omega
  ·rw [ha]
   exact call_out hA (f := false) rfl (show k + 1 <= G.length by omega) hi hn (by show _ = 2; omega)
 ·intro n h
  rcases key n 3 (by omega) h with ⟨h0, _⟩ | ⟨hc, i, hi, hn, hkk, ha⟩
  ·omega
  ·rw [ha]
   exact call_out hA (f := true) rfl (show k + 1 <= G.length by omega) hi hn (by show _ = 3; omega)
 ·intro n h
  rcases key n 0 (by omega) h with ⟨_, i, hi⟩ | ⟨hc, i, hi, hn, hkk, _⟩
  ·exact .inl ⟨i, hfind n i hi, .inl hi⟩
  ·obtain ⟨q, a1, a2, a3⟩ := var_out hA (show k + 1 <= G.length by omega) hi hn (by omega)
   have ho := hother n i hi hn (by omega)
   exact .inr ⟨hhn n hc ho, hnone n hc, hres n i hi hn ho, q, a1, a2, a3⟩
 ·intro n h
  unfold Env.isRes bodyEnv at h
  have hl : ((G.take (k + 1)).map syOf).length - 1 = k := by simp; omega
  rw [hl] at h
  simp only [Bool.and_eq_true, decide_eq_true_eq] at h
  obtain ⟨⟨h1, h2⟩, h3⟩ := h
  have e : ((G.take (k + 1)).map syOf).getD k default = syOf (G.getD k gl0) := by rw [getD_sy (by simp; omega), take_getD (by omega) (by omega)]
  rw [e] at h1 h2
  have hf : f = true := by cases f; · rw [hkd] at h1; simp at h1
                           ·rfl
  subst hf
  have hn : eqB r.name.1 n = true := by rw [<- hnm]; exact h2
  have hc : ∀ x ∈ r.cells, eqB x n = false := here_find.1 (by
   cases hz : findLast (r.cells.map fun n => (⟨n, 0, 0⟩ : Sy)) n with
   | none => rfl
   | some k => rw [hz] at h3; cases h3)
  have hown : r.own true = true := by
   unfold Ro.own
   simp only [Bool.true_and, Bool.not_eq_true', List.any_eq_false]
   intro x hx he
   have h5 := hc x hx
   have h6 : eqB x n = true := by rw [eqB_iff] at *; rw [he, hn]
   rw [h6] at h5; cases h5
  refine .inl ⟨r.cells.length, ?_, .inr ⟨hnone n hc, ?_, rfl⟩⟩
  ·unfold hnOf
   rw [List.findIdx?_append, hnone n hc, hown]
   simp [hn]
  ·show eqB n r.name.1 = true
   rw [eqB_iff] at *; exact hn.symm
end
theorem codeAt_mid (a c b : List Nat) : CodeAt (a ++ c ++ b) a.length c := fun j x hj => by
 have hl := (List.getElem?_eq_some_iff.1 hj).1
 rw [List.append_assoc, List.getElem?_append_right (by omega), Nat.add_sub_cancel_left, List.getElem?_append_left hl]
 exact hj
theorem sum_le : ∀ (l : List Nat) (b : Nat), (∀ x ∈ l, x <= b) -> l.sum <= l.length * b
 | [], _, _ => by simp
 | a :: l, b, h => by
  have h1 := h a (by simp)
  have h2 := sum_le l b (fun x hx => h x (by simp [hx]))
  rw [List.sum_cons, List.length_cons, Nat.succ_mul]
  omega
theorem run_code {T : List Tok} {p : Pr} (hw : PrWh T p) (hT : T.length <= 601) (hl : lookPr ⟨[], [], none, false⟩ p = none) (hlen : (cPr p).1.length <= 5000) (input : List Int) (B : Nat) :
  ∃ m, Rch (cPr p).1 B (m0 (cPr p) input) m /\ m.over = some (outcome p input B).1 /\ m.out = (outcome p input B).2.1 /\ m.used = (outcome p input B).2.2 := by
 unfold lookPr at hl
 obtain ⟨l1, l2⟩ := or_none hl
 obtain ⟨g1, g2, g3, g4⟩ := look_gls p.globals _ l1 rfl rfl
 simp only [List.nil_append] at g1 g4
 have hGl := hw.len
 have hN : ∀ i, i < p.globals.length -> (nmG p.globals i).toList ≠ [] := by
  intro i hi
  have e : p.globals.getD i gl0 = p.globals[i] := by simp [List.getD, hi]
  have := (hw.globals p.globals[i] (List.getElem_mem hi)).1
  unfold nmG
  rw [e]
  generalize p.globals[i] = g at *
  cases g with
  | var n q => exact this.1
  | arr n q s a => exact this.1
  | proc r => exact this.name.1
  | func r => exact this.name.1
 have hA : ∀ i j, i < j -> j < p.globals.length -> eqB (nmG p.globals i) (nmG p.globals j) = false := by
  intro i j hij hj
  have e : p.globals[j]? = some (p.globals.getD j gl0) := by simp [List.getD, hj]
  have h1 := (g4 j _ e).1
  have := findBelow_none h1 i (by simp; omega)
  rw [getD_sy (by simp; omega), take_getD hij (by omega)] at this
  exact this
 have hsz : ((shapeG p.globals).map (·.2)).sum <= 1000000 := by
  have := sum_le ((shapeG p.globals).map (·.2)) 20 (fun x hx => by
   obtain ⟨y, hy, rfl⟩ := List.mem_map.1 hx
   obtain ⟨i, hi, rfl⟩ := List.getElem_of_mem hy
   have hi' : i < p.globals.length := by rw [shapeG_len] at hi; exact hi
   have h2 := shapeG_get hi'
   rw [List.getElem?_eq_getElem hi] at h2
   rw [Option.some.inj h2]
   have e : p.globals[i]? = some (p.globals.getD i gl0) := by simp [List.getD, hi']
   have h1 := (g4 i _ e).2
   cases hg : p.globals.getD i gl0 with
   | var n q => simp [glSize]
   | arr n q s a => rw [hg] at h1; exact h1.2
   | proc r => simp [glSize]
   | func r => simp [glSize])
  rw [List.length_map, shapeG_len] at this
  omega
 have hcg : cGls cg0 p.globals = cgAt p.globals p.globals.length := by unfold cgAt; rw [List.take_length]
 have hW : (cPr p).1 = (cgAt p.globals p.globals.length).words ++ cSts (ceTop (cgAt p.globals p.globals.length)) (cgAt p.globals p.globals.length).words.length p.body ++ [0] := by unfold cPr; rw [hcg]
 have hTab : Table (cPr p).1 p.globals (shapeG p.globals) (pcG p.globals) := by
  intro n f r hr
  obtain ⟨k, hk, hn, hg⟩ := routine_from hr
  refine ⟨(cgAt p.globals (k + 1)).g, ?_, ?_⟩
  ·have e2 := cg_name hA hn p.globals.length (by omega) (Nat.le_refl _)
   have hpc : pcG p.globals n = (cgAt p.globals k).words.length := by
    unfold pcG; rw [e2, hg]; cases f <;> rfl
   have hs := cgAt_succ hk
   rw [cGl_form, hg] at hs
   have hwd : (cgAt p.globals (k + 1)).words = (cgAt p.globals k).words ++ roCode f (cgAt p.globals (k + 1)).g r (cgAt p.globals k).words.length := by
    rw [hs]; cases f <;> rfl
   obtain ⟨t, ht⟩ := cg_words (G := p.globals) (i := k + 1) p.globals.length (by omega) (Nat.le_refl _)
   rw [hpc, hW, ht, hwd, List.append_assoc, List.append_assoc]
   exact codeAt_mid _ _ _
  ·have e : p.globals[k]? = some (p.globals.getD k gl0) := by simp [List.getD, hk]
   have h1 := (g4 k _ e).2
   have hsy : (p.globals.take (k + 1)).map syOf = (p.globals.take k).map syOf ++ [syOf (p.globals.getD k gl0)] := by
    rw [List.take_succ_eq_append_getElem hk, List.map_append]
    simp [List.getD, hk]
   have hlk : lookSts (bodyEnv ((p.globals.take (k + 1)).map syOf) r) r.body = none := by
    rw [hsy]
    rw [hg] at h1 ⊢
    cases f
    ·exact h1
    ·exact h1
   have hwb : WhSts r.body := by
    have e3 : p.globals.getD k gl0 = p.globals[k] := by simp [List.getD, hk]
    have h2 := (hw.globals p.globals[k] (List.getElem_mem hk)).1
    rw [<- e3, hg] at h2
    cases f
    ·exact h2.body.2
    ·exact h2.body.2
   exact known_sts (knows_body hA hN hk hg) r.body hlk hwb
 have hE : (lookGls ⟨[], [], none, false⟩ p.globals).1 = ⟨p.globals.map syOf, [], none, (lookGls ⟨[], [], none, false⟩ p.globals).1.fresh⟩ := by
  generalize (lookGls ⟨[], [], none, false⟩ p.globals).1 = X at *
  cases X
  simp only at g1 g2 g3
  rw [g1, g2, g3]
 have hbody : okSts (ceTop (cgAt p.globals p.globals.length)) (shapeG p.globals) [] (okCE p.globals (pcG p.globals) (ceTop (cgAt p.globals p.globals.length))) p.body := by
  have hkn := knows_top hA hN
  have hkn2 : Knows (lookGls ⟨[], [], none, false⟩ p.globals).1 (ceTop (cgAt p.globals p.globals.length)) (shapeG p.globals) [] (okCE p.globals (pcG p.globals) (ceTop (cgAt p.globals p.globals.length))) := by
   rw [hE]
   exact ⟨hkn.var, hkn.arr, hkn.proc, hkn.func, hkn.set, hkn.res⟩
  exact known_sts hkn2 p.body l2 hw.body.2
 have hstart : Sees B (shapeG p.globals) [] ⟨[], [], []⟩ (start p input) (m0 (cPr p) input) (cgAt p.globals p.globals.length).words.length [] := by
  refine ⟨?_, rfl, rfl, rfl, ?_, rfl, rfl, rfl, rfl, rfl, Nat.zero_le _, by simp [start], rfl, rfl, Nat.zero_le _, Nat.zero_le _⟩
  ·unfold m0 cPr; rw [hcg]
  ·show List.replicate (cPr p).2.2 0 = flat (p.globals.map glob0)
   have e1 : (cPr p).2.2 = (flat (p.globals.map glob0)).length := by
    have h2 := flat_off (p.globals.map glob0) p.globals.length
    rw [List.take_of_length_le (by simp)] at h2
    rw [h2]
    unfold cPr
    rw [hcg]
    exact cg_places _ (Nat.le_refl _)
   rw [e1]
   symm
   rw [List.eq_replicate_iff]
   refine ⟨rfl, fun x hx => ?_⟩
   unfold flat at hx
   obtain ⟨c, hc, hx⟩ := List.mem_flatMap.1 hx
   obtain ⟨g, _, rfl⟩ := List.mem_map.1 hc
   cases g <;> simp [glob0] at hx
   ·exact hx
   ·exact hx.2
 have hrl : ∀ n f r, routineOf p.globals n = some (f, r) -> r.params.length + r.locals.length <= 700 := by
  intro n f r hr
  obtain ⟨k, hk, _, hg⟩ := routine_from hr
  have e : p.globals.getD k gl0 = p.globals[k] := by simp [List.getD, hk]
  have h2 := hw.globals p.globals[k] (List.getElem_mem hk)
  rw [<- e, hg] at h2
  cases f
  ·have h3 : r.params.length + r.locals.length <= T.length := h2.2
   omega
  ·have h3 : r.params.length + r.locals.length <= T.length := h2.2
   omega
 have hsim := simSts (sim_call hsz hlen hrl hTab 30 0 (ceTop (cgAt p.globals p.globals.length)) [] (by omega)) hsz (grows_call B p.globals 30) p.body _ ⟨[], [], []⟩ _ _ hbody rfl (by rw [hW]; exact codeAt_mid _ _ _) hstart
 have hend : (cPr p).1[(cgAt p.globals p.globals.length).words.length + (cSts (ceTop (cgAt p.globals p.globals.length)) (cgAt p.globals p.globals.length).words.length p.body).length]? = some 0 := by
  rw [hW, <- List.length_append, List.getElem?_append_right (Nat.le_refl _), Nat.sub_self]; rfl
 unfold outcome runPr
 generalize runSts B (callR B p.globals 30) p.body (start p input) = s at *
 cases hs : s.stop with
 | none =>
  obtain ⟨m, hr, hm⟩ := hsim.1 hs
  have hst : stepM (cPr p).1 B m = some (({ m with pc := m.pc + 1 } : MS).end_ 0) := by
   unfold stepM; rw [hm.pc, hend]; rfl
  exact ⟨_, hr.trans (Rch.one hm.over hm.small hst), rfl, hm.out, hm.used⟩
 | some c =>
  obtain ⟨m, hr, h1, h2, h3⟩ := hsim.2 c hs
  refine ⟨m, hr, ?_, h2, h3⟩
  rw [h1]
  unfold endCode
  cases c with
  | zero => rfl
  | succ c => simp
end Go.Proofs.YtklobognaldjpaaGreat
