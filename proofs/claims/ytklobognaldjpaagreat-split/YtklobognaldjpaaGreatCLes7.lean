/- Plain: what stands ahead of the statements of a lesson. Plain: what stands ahead of the statements, cut short. Plain: the words of a lesson are tokens. Plain: a lesson is read, and one that is cut sho -/
import Derived.Test.YtklobognaldjpaaGreatCLes2
import Derived.Test.YtklobognaldjpaaGreatCLk13
import Derived.Test.YtklobognaldjpaaGreatCVo1
set_option maxRecDepth 1000000
namespace Go.Proofs.YtklobognaldjpaaGreat
theorem hdr_len : hdrW.length = 64 := rfl
def nA : ByteArray := ⟨#[97]⟩
def nB : ByteArray := ⟨#[98]⟩
def nF : ByteArray := ⟨#[102]⟩
def nN : ByteArray := ⟨#[110]⟩
def nW : ByteArray := ⟨#[119]⟩
def hdrItems (p : Nat -> Nat) : List Gl := [.var nA (p 1), .var nB (p 3), .var ⟨#[99]⟩ (p 5), .arr ⟨#[122]⟩ (p 7) 5 (p 9)]
def hdrFb (p : Nat -> Nat) : List St := [.ite (.bin ⟨#[60]⟩ (.var nN (p 19)) (.num 1)) (.assign nF (p 23) (.num 1)) (.assign nF (p 27) (.bin ⟨#[43]⟩ (.var nN (p 29)) (.call nF (p 31) [.bin ⟨#[45]⟩ (.var nN (p 33)) (.num 1)])))]
def hdrPb (p : Nat -> Nat) : List St := [.assign nW (p 50) (.bin ⟨#[42]⟩ (.var ⟨#[117]⟩ (p 52)) (.var ⟨#[118]⟩ (p 54))), .assign nA (p 56) (.bin ⟨#[45]⟩ (.var nW (p 58)) (.var nB (p 60)))]
def hdrF (p : Nat -> Nat) : Ro := ⟨(nF, p 13), [(nN, p 15)], [], hdrFb p⟩
def hdrP (p : Nat -> Nat) : Ro := ⟨(⟨#[112]⟩, p 40), [(⟨#[117]⟩, p 42), (⟨#[118]⟩, p 44)], [(nW, p 47)], hdrPb p⟩
def hdrG (p : Nat -> Nat) : List Gl := hdrItems p ++ [.func (hdrF p)] ++ [.proc (hdrP p)]
theorem hdr_items (p : Nat -> Nat) (X : List Tok) : itemsP (toksF p hdrW ++ X) ⟨0, 0, 1⟩ = (hdrItems p, ⟨0, 0, 12⟩) := by kernel_rfl
theorem hdr_fb (p : Nat -> Nat) (X : List Tok) : bodyP (toksF p hdrW ++ X) ⟨0, 0, 17⟩ = (hdrFb p, ⟨0, 0, 38⟩) := by kernel_rfl
theorem hdr_fl (p : Nat -> Nat) (X : List Tok) : routineLocals (toksF p hdrW ++ X) ⟨0, 0, 13⟩ = ([], ⟨0, 0, 17⟩) := by kernel_rfl
theorem hdr_pb (p : Nat -> Nat) (X : List Tok) : bodyP (toksF p hdrW ++ X) ⟨0, 0, 49⟩ = (hdrPb p, ⟨0, 0, 62⟩) := by kernel_rfl
theorem hdr_pl (p : Nat -> Nat) (X : List Tok) : routineLocals (toksF p hdrW ++ X) ⟨0, 0, 40⟩ = ([(nW, p 47)], ⟨0, 0, 49⟩) := by kernel_rfl
theorem hdr_f (p : Nat -> Nat) (X : List Tok) : routineP (toksF p hdrW ++ X) ⟨0, 0, 13⟩ = (hdrF p, ⟨0, 0, 39⟩) := by
 unfold routineP
 rw [hdr_fl, hdr_fb]
 kernel_rfl
theorem hdr_p (p : Nat -> Nat) (X : List Tok) : routineP (toksF p hdrW ++ X) ⟨0, 0, 40⟩ = (hdrP p, ⟨0, 0, 63⟩) := by
 unfold routineP
 rw [hdr_pl, hdr_pb]
 kernel_rfl
theorem hdr_see (p : Nat -> Nat) (X : List Tok) :
  (sees (toksF p hdrW ++ X) (bs [118, 97, 114]) ⟨0, 0, 0⟩ = true /\ sees (toksF p hdrW ++ X) (bs [118, 97, 114]) ⟨0, 0, 12⟩ = false /\ sees (toksF p hdrW ++ X) (bs [112, 114, 111, 99]) ⟨0, 0, 12⟩ = false /\ sees (toksF p hdrW ++ X) (bs [102, 117, 110, 99]) ⟨0, 0, 12⟩ = true)
  /\ (sees (toksF p hdrW ++ X) (bs [118, 97, 114]) ⟨0, 0, 39⟩ = false /\ sees (toksF p hdrW ++ X) (bs [112, 114, 111, 99]) ⟨0, 0, 39⟩ = true)
  /\ (sees (toksF p hdrW ++ X) (bs [118, 97, 114]) ⟨0, 0, 63⟩ = false /\ sees (toksF p hdrW ++ X) (bs [112, 114, 111, 99]) ⟨0, 0, 63⟩ = false /\ sees (toksF p hdrW ++ X) (bs [102, 117, 110, 99]) ⟨0, 0, 63⟩ = false) := by
 refine ⟨⟨?_, ?_, ?_, ?_⟩, ⟨?_, ?_⟩, ?_, ?_, ?_⟩ <;> kernel_rfl
theorem hdr_parse (p : Nat -> Nat) (X : List Tok) : globalsP (toksF p hdrW ++ X) ⟨0, 0, 0⟩ = (hdrG p, ⟨0, 0, 63⟩) := by
 obtain ⟨⟨a1, a2, a3, a4⟩, ⟨b1, b2⟩, c1, c2, c3⟩ := hdr_see p X
 have h1 := hdr_items p X
 have h2 := hdr_f p X
 have h3 := hdr_p p X
 have hl : (toksF p hdrW ++ X).length = X.length + 60 + 1 + 1 + 1 + 1 := by rw [List.length_append, toksF_length, hdr_len]; omega
 unfold globalsP
 rw [hl]
 generalize toksF p hdrW ++ X = T at *
 rw [globalsLoop, if_pos a1]
 show globalsLoop T _ ([] ++ (itemsP T ⟨0, 0, 1⟩).1) (itemsP T ⟨0, 0, 1⟩).2 = _
 rw [h1, globalsLoop]
 simp only [a2, a3, a4, if_true, Bool.false_eq_true, if_false]
 show globalsLoop T _ ([] ++ hdrItems p ++ [.func (routineP T ⟨0, 0, 13⟩).1]) (routineP T ⟨0, 0, 13⟩).2 = _
 rw [h2, globalsLoop]
 simp only [b1, b2, if_true, Bool.false_eq_true, if_false]
 show globalsLoop T _ ([] ++ hdrItems p ++ [.func (hdrF p)] ++ [.proc (routineP T ⟨0, 0, 40⟩).1]) (routineP T ⟨0, 0, 40⟩).2 = _
 rw [h3, globalsLoop]
 simp only [c1, c2, c3, Bool.false_eq_true, if_false]
 rfl
def envL : Env := ⟨(lookGls ⟨[], [], none, false⟩ (hdrG fun _ => 0)).1.glob, [], none, (lookGls ⟨[], [], none, false⟩ (hdrG fun _ => 0)).1.fresh⟩
theorem hdr_look (p : Nat -> Nat) : lookGls ⟨[], [], none, false⟩ (hdrG p) = (envL, none) := by kernel_rfl
theorem st_look_all (p : Nat -> Nat) : (List.range 12).map (fun kd => (List.range 9).map fun k => lookSt envL (stT p kd k)) = (List.range 12).map (fun _ => (List.range 9).map fun _ => (none : Option (Nat × Nat))) := by kernel_rfl
theorem st_look {kd k : Nat} (hd : kd < 12) (hk : k < 9) (p : Nat -> Nat) : lookSt envL (stT p kd k) = none :=
 map_all (map_all (st_look_all p) (List.mem_range.2 hd)) (List.mem_range.2 hk)
theorem voc_gap_all : ∀ t ∈ vocW, ∀ X, gapSz (t ++ X) = 0 := by
 intro t ht X
 have h : vocW.map (fun t => gapSz (t ++ X)) = vocW.map (fun _ => 0) := by kernel_rfl
 exact map_all h ht
theorem voc_lex_all : ∀ t ∈ vocW, ∀ X, Brk X -> lex1 (t ++ X) = .ok ((tkOf t).1, t.length, (tkOf t).2) := by
 intro t ht X hX
 rcases hX with rfl | ⟨c, r, rfl, rfl | rfl | rfl⟩
 ·have h : vocW.map (fun t => lex1 (t ++ [])) = vocW.map (fun t => Except.ok ((tkOf t).1, t.length, (tkOf t).2)) := by kernel_rfl
  exact map_all h ht
 ·have h : vocW.map (fun t => lex1 (t ++ 32 :: r)) = vocW.map (fun t => Except.ok ((tkOf t).1, t.length, (tkOf t).2)) := by kernel_rfl
  exact map_all h ht
 ·have h : vocW.map (fun t => lex1 (t ++ 10 :: r)) = vocW.map (fun t => Except.ok ((tkOf t).1, t.length, (tkOf t).2)) := by kernel_rfl
  exact map_all h ht
 ·have h : vocW.map (fun t => lex1 (t ++ 123 :: r)) = vocW.map (fun t => Except.ok ((tkOf t).1, t.length, (tkOf t).2)) := by kernel_rfl
  exact map_all h ht
theorem voc_ne : ∀ t ∈ vocW, t ≠ [] := by decide
theorem voc_tok {t : List UInt8} (ht : t ∈ vocW) : TokOk t (tkOf t).1 (tkOf t).2 := ⟨voc_gap_all t ht, voc_lex_all t ht, voc_ne t ht⟩
theorem hdr_voc : ∀ t ∈ hdrW, t ∈ vocW := by decide +kernel
theorem st_voc_all : ∀ kd ∈ List.range 12, ∀ k ∈ List.range 9, ∀ t ∈ stW kd k, t ∈ vocW := by decide +kernel
theorem st_voc {kd k : Nat} (hd : kd < 12) (hk : k < 9) : ∀ t ∈ stW kd k, t ∈ vocW := st_voc_all kd (List.mem_range.2 hd) k (List.mem_range.2 hk)
def KsOk (ks : List (Nat × Nat)) : Prop := ∀ x ∈ ks, x.1 < 12 /\ x.2 < 9
inductive TreesOf : List (Nat × Nat) -> List St -> Prop
 | nil : TreesOf [] []
 | cons (x : Nat × Nat) (p : Nat -> Nat) {r : List (Nat × Nat)} {ts : List St} : TreesOf r ts -> TreesOf (x :: r) (stT p x.1 x.2 :: ts)
def lesW (ks : List (Nat × Nat)) : List (List UInt8) := hdrW ++ (bodyW ks ++ [endW, dotW])
theorem toks_over (p : Nat -> Nat) (l : List (List UInt8)) (e : Nat) : Toks (toksF p l ++ [overAt e]) := by
 refine ⟨by simp, fun t ht => ?_⟩
 rw [List.length_append, List.length_singleton, Nat.add_sub_cancel, List.getElem?_append_right (Nat.le_refl _), Nat.sub_self] at ht
 cases ht
 exact ⟨rfl, by show (bs []).toList = []; rw [bsl']⟩
theorem body_cons (x : Nat × Nat) (y : Nat × Nat) (r : List (Nat × Nat)) : bodyW (x :: y :: r) = stW x.1 x.2 ++ ([semiW] ++ bodyW (y :: r)) := rfl
theorem body_one (x : Nat × Nat) : bodyW [x] = stW x.1 x.2 := by show stW x.1 x.2 ++ [] = _; rw [List.append_nil]
theorem loop_step {kd k : Nat} (hd : kd < 12) (hk : k < 9) (p : Nat -> Nat) (a n : Nat) (acc : List St) (X : List Tok) (hT : Toks (toksF p (stW kd k ++ [semiW]) ++ X)) (hX : X ≠ []) :
  listLoop (toksF p (stW kd k ++ [semiW]) ++ X) (stmtD (toksF p (stW kd k ++ [semiW]) ++ X) 14) (n + 1) acc ⟨0, a, 0⟩ = shR ((stW kd k).length + 1) (listLoop X (stmtD X 14) n (acc ++ [stT p kd k]) ⟨0, a, 0⟩) := by
 obtain ⟨h1, h2⟩ := st_parse hd hk true p a X
 have e : termW true = semiW := rfl
 rw [e] at h1 h2
 have hd2 : (toksF p (stW kd k ++ [semiW]) ++ X).drop ((stW kd k).length + 1) = X := by
  have : (toksF p (stW kd k ++ [semiW])).length = (stW kd k).length + 1 := by rw [toksF_length]; simp
  rw [<- this, List.drop_left]
 have hlt : (stW kd k).length + 1 < (toksF p (stW kd k ++ [semiW]) ++ X).length := by
  rw [List.length_append, toksF_length, List.length_append, List.length_singleton]
  have : 0 < X.length := List.length_pos_iff.2 hX
  omega
 generalize toksF p (stW kd k ++ [semiW]) ++ X = T at *
 rw [listLoop, h1, h2, if_pos rfl]
 show listLoop T (stmtD T 14) n (acc ++ [stT p kd k]) (sh ((stW kd k).length + 1) ⟨0, a, 0⟩) = _
 have hg : Good (T.drop ((stW kd k).length + 1)) ⟨0, a, 0⟩ := by show 0 < _; rw [hd2]; exact List.length_pos_iff.2 hX
 rw [shf_listLoop hT hlt (shf_stmt hT hlt 14) (mon_stmtD (toks_drop hT hlt) 14) n _ _ hg, hd2]
theorem empty_loop (p : Nat -> Nat) (a n e : Nat) (acc : List St) : listLoop (toksF p ([] ++ [endW, dotW]) ++ [overAt e]) (stmtD (toksF p ([] ++ [endW, dotW]) ++ [overAt e]) 14) (n + 1) acc ⟨0, a, 0⟩ = (acc ++ [], ⟨0, a, 0⟩) := by kernel_rfl
theorem body_loop : ∀ (ks : List (Nat × Nat)) (p : Nat -> Nat) (a n e : Nat) (acc : List St), KsOk ks -> (toksF p (bodyW ks ++ [endW, dotW]) ++ [overAt e]).length <= n ->
  ∃ ts, TreesOf ks ts /\ listLoop (toksF p (bodyW ks ++ [endW, dotW]) ++ [overAt e]) (stmtD (toksF p (bodyW ks ++ [endW, dotW]) ++ [overAt e]) 14) n acc ⟨0, a, 0⟩ = (acc ++ ts, ⟨0, a, (bodyW ks).length⟩)
 | [], p, a, n, e, acc, _, hn => by
  obtain ⟨m, rfl⟩ : ∃ m, n = m + 1 := ⟨n - 1, by rw [List.length_append] at hn; simp at hn; omega⟩
  exact ⟨[], .nil, empty_loop p a m e acc⟩
 | [x], p, a, n, e, acc, hk, hn => by
  obtain ⟨m, rfl⟩ : ∃ m, n = m + 1 := ⟨n - 1, by rw [List.length_append] at hn; simp at hn; omega⟩
  obtain ⟨hd, h9⟩ := hk x (by simp)
  have eT : toksF p (bodyW [x] ++ [endW, dotW]) ++ [overAt e] = toksF p (stW x.1 x.2 ++ [endW]) ++ (toksF (fun j => p ((stW x.1 x.2 ++ [endW]).length + j)) [dotW] ++ [overAt e]) := by
   rw [body_one, <- List.append_assoc, <- toksF_append]
   simp
  rw [eT]
  obtain ⟨h1, h2⟩ := st_parse hd h9 false p a (toksF (fun j => p ((stW x.1 x.2 ++ [endW]).length + j)) [dotW] ++ [overAt e])
  have e2 : termW false = endW := rfl
  rw [e2] at h1 h2
  refine ⟨[stT p x.1 x.2], .cons x p .nil, ?_⟩
  rw [listLoop, h1, h2, if_neg (by decide), body_one]
 | x :: y :: r, p, a, n, e, acc, hk, hn => by
  obtain ⟨m, rfl⟩ : ∃ m, n = m + 1 := ⟨n - 1, by rw [List.length_append] at hn; simp at hn; omega⟩
  obtain ⟨hd, h9⟩ := hk x (by simp)
  have eT : toksF p (bodyW (x :: y :: r) ++ [endW, dotW]) ++ [overAt e] = toksF p (stW x.1 x.2 ++ [semiW]) ++ (toksF (fun j => p ((stW x.1 x.2 ++ [semiW]).length + j)) (bodyW (y :: r) ++ [endW, dotW]) ++ [overAt e]) := by
   rw [body_cons, show stW x.1 x.2 ++ ([semiW] ++ bodyW (y :: r)) ++ [endW, dotW] = (stW x.1 x.2 ++ [semiW]) ++ (bodyW (y :: r) ++ [endW, dotW]) from by simp, toksF_append, List.append_assoc]
  have hT : Toks (toksF p (bodyW (x :: y :: r) ++ [endW, dotW]) ++ [overAt e]) := toks_over _ _ _
  rw [eT] at hT hn ⊢
  rw [loop_step hd h9 p a m acc _ hT (by simp)]
  obtain ⟨ts, ht, hl⟩ := body_loop (y :: r) (fun j => p ((stW x.1 x.2 ++ [semiW]).length + j)) a m e (acc ++ [stT p x.1 x.2]) (fun z hz => hk z (by simp at hz ⊢; exact .inr hz)) (by
   have hl2 : ∀ Y : List Tok, (toksF p (stW x.1 x.2 ++ [semiW]) ++ Y).length = (stW x.1 x.2).length + 1 + Y.length := fun Y => by rw [List.length_append, toksF_length, List.length_append, List.length_singleton]
   rw [hl2] at hn
   omega)
  refine ⟨stT p x.1 x.2 :: ts, .cons x p ht, ?_⟩
  rw [hl, body_cons]
  unfold shR sh
  simp
  omega
theorem finish_whole (p : Nat -> Nat) (a e : Nat) : finish (toksF p [endW, dotW] ++ [overAt e]) ⟨0, a, 0⟩ = ⟨0, a, 2⟩ := by kernel_rfl
theorem sh_finish {T : List Tok} {i : Nat} (hi : i < T.length) (s : PS) : finish T (sh i s) = sh i (finish (T.drop i) s) := by
 unfold finish endP
 rw [sh_want hi, sh_want hi, sh_kind, sh_fails hi]
 split <;> rfl
theorem program_finish (T : List Tok) (s : PS) : programP T s = (⟨(globalsP T s).1, (listOf T (stmtD T 14) (want T (bs [98, 101, 103, 105, 110]) (globalsP T s).2)).1⟩, finish T (listOf T (stmtD T 14) (want T (bs [98, 101, 103, 105, 110]) (globalsP T s).2)).2) := rfl
theorem hdr_begin (p : Nat -> Nat) (X : List Tok) : want (toksF p hdrW ++ X) (bs [98, 101, 103, 105, 110]) ⟨0, 0, 63⟩ = ⟨0, 0, 64⟩ := by kernel_rfl
theorem hdr_program (p : Nat -> Nat) (X : List Tok) (hT : Toks (toksF p hdrW ++ X)) (hX : X ≠ []) :
  programP (toksF p hdrW ++ X) ⟨0, 0, 0⟩ = (⟨hdrG p, (listLoop X (stmtD X 14) X.length [] ⟨0, 0, 0⟩).1⟩, sh 64 (finish X (listLoop X (stmtD X 14) X.length [] ⟨0, 0, 0⟩).2)) := by
 have h0 : 0 < X.length := List.length_pos_iff.2 hX
 have hl : (toksF p hdrW).length = 64 := by rw [toksF_length]; rfl
 have hd : (toksF p hdrW ++ X).drop 64 = X := by rw [<- hl, List.drop_left]
 have hlt : 64 < (toksF p hdrW ++ X).length := by rw [List.length_append, hl]; omega
 rw [program_finish, hdr_parse, hdr_begin]
 generalize toksF p hdrW ++ X = T at *
 have hg : Good (T.drop 64) ⟨0, 0, 0⟩ := by show 0 < _; rw [hd]; exact h0
 have e : listOf T (stmtD T 14) ⟨0, 0, 64⟩ = shR 64 (listLoop X (stmtD X 14) X.length [] ⟨0, 0, 0⟩) := by
  have := shf_listOf hT hlt (shf_stmt hT hlt 14) (mon_stmtD (toks_drop hT hlt) 14) _ hg
  rw [hd] at this
  exact this
 rw [e]
 show (_, finish T (sh 64 _)) = _
 rw [sh_finish hlt, hd]
 rfl
theorem les_whole {ks : List (Nat × Nat)} (hk : KsOk ks) (p : Nat -> Nat) (e : Nat) : ∃ ts, TreesOf ks ts /\ programP (toksF p (lesW ks) ++ [overAt e]) ⟨0, 0, 0⟩ = (⟨hdrG p, ts⟩, ⟨0, 0, (lesW ks).length⟩) := by
 have eT : toksF p (lesW ks) ++ [overAt e] = toksF p hdrW ++ (toksF (fun j => p (hdrW.length + j)) (bodyW ks ++ [endW, dotW]) ++ [overAt e]) := by
  unfold lesW; rw [toksF_append, List.append_assoc]
 have hT : Toks (toksF p (lesW ks) ++ [overAt e]) := toks_over _ _ _
 rw [eT] at hT ⊢
 rw [hdr_program p _ hT (by simp)]
 obtain ⟨ts, ht, hl⟩ := body_loop ks (fun j => p (hdrW.length + j)) 0 _ e [] hk (Nat.le_refl _)
 refine ⟨ts, ht, ?_⟩
 rw [hl]
 have hlt : (bodyW ks).length < (toksF (fun j => p (hdrW.length + j)) (bodyW ks ++ [endW, dotW]) ++ [overAt e]).length := by
  rw [List.length_append, toksF_length, List.length_append]; simp; omega
 show (_, sh 64 (finish _ (sh (bodyW ks).length ⟨0, 0, 0⟩))) = _
 rw [sh_finish hlt, toksF_append, List.append_assoc]
 have hl2 : (toksF (fun j => p (hdrW.length + j)) (bodyW ks)).length = (bodyW ks).length := toksF_length _ _
 rw [<- hl2, List.drop_left, finish_whole, hl2]
 unfold sh lesW
 simp only [List.length_append, hdr_len, List.length_cons, List.length_nil]
 rfl
def joinG (g : List UInt8) : List (List UInt8) -> List UInt8
 | [] => []
 | t :: r => t ++ r.flatMap (fun u => g ++ u)
theorem joinG_snoc (g : List UInt8) (l : List (List UInt8)) (t : List UInt8) : joinG g (l ++ [t]) = if l = [] then t else joinG g l ++ (g ++ t) := by
 cases l with
 | nil => simp [joinG]
 | cons a r => simp [joinG]
def joinW (l : List (List UInt8)) : List UInt8 := joinG [32] l
def pcW (t : List UInt8) : Pc := ⟨t, (tkOf t).1, (tkOf t).2, [32]⟩
theorem gap_blank : GapL [32] := by
 have := GapL.step [32] [] (by simp) (fun X => by simp [gapSz]) .nil
 simpa using this
theorem pcW_ok {t : List UInt8} (h : t ∈ vocW) : PcOk (pcW t) := ⟨voc_tok h, gap_blank, ⟨32, [], rfl, .inl rfl⟩⟩
theorem lay_join : ∀ (r : List (List UInt8)) (t : List UInt8), lay (r.map pcW) ++ t = joinW (r ++ [t])
 | [], t => by simp [lay, joinW, joinG]
 | a :: r, t => by
  rw [List.map_cons, lay_cons]
  have ih := lay_join r t
  unfold joinW at *
  cases r with
  | nil => simp [lay, pcW, joinG]
  | cons b r =>
   rw [List.append_assoc, List.append_assoc, ih]
   simp [pcW, joinG]
def posW (l : List (List UInt8)) (j : Nat) : Nat := (lay ((l.take j).map pcW)).length
theorem toksP_toksF : ∀ (l : List (List UInt8)) (q : Nat), toksP q (l.map pcW) = toksF (fun j => q + posW l j) l
 | [], q => rfl
 | t :: r, q => by
  rw [List.map_cons]
  simp only [toksP, toksF]
  have e0 : q + posW (t :: r) 0 = q := by simp [posW, lay]
  have e1 : (fun j => q + posW (t :: r) (j + 1)) = (fun j => q + (pcW t).text.length + (pcW t).gap.length + posW r j) := by
   funext j
   have : posW (t :: r) (j + 1) = t.length + 1 + posW r j := by
    show (lay (((t :: r).take (j + 1)).map pcW)).length = _
    rw [List.take_succ_cons, List.map_cons, lay_cons]
    simp [pcW, posW]
    omega
   rw [this]
   show _ = q + t.length + 1 + posW r j
   omega
  rw [e0, e1, toksP_toksF r]
  rfl
theorem toksF_congr : ∀ (l : List (List UInt8)) (p q : Nat -> Nat), (∀ j, j < l.length -> p j = q j) -> toksF p l = toksF q l
 | [], _, _, _ => rfl
 | t :: r, p, q, h => by
  simp only [toksF]
  rw [h 0 (by simp), toksF_congr r (fun j => p (j + 1)) (fun j => q (j + 1)) (fun j hj => h (j + 1) (by simp; omega))]
theorem lex_join (l : List (List UInt8)) (h : ∀ t ∈ l, t ∈ vocW) : lexAll (joinW l) = .ok (toksF (posW l) l ++ [overAt (joinW l).length]) := by
 rcases List.eq_nil_or_concat l with rfl | ⟨r, t, rfl⟩
 ·have e : joinW [] = [] := rfl
  rw [e]
  unfold lexAll
  rw [gap, if_neg (by simp), lexAt_end (by simp)]
  rfl
 ·rw [List.concat_eq_append] at h ⊢
  rw [<- lay_join r t]
  have hr : ∀ p ∈ r.map pcW, PcOk p := by
   intro p hp
   obtain ⟨u, hu, rfl⟩ := List.mem_map.1 hp
   exact pcW_ok (h u (by simp [hu]))
  rw [lexAll_lay hr (voc_tok (h t (by simp))), toksP_toksF, toksF_append]
  have e1 : toksF (fun j => 0 + posW r j) r = toksF (posW (r ++ [t])) r := toksF_congr _ _ _ fun j hj => by
   rw [Nat.zero_add]; unfold posW; rw [List.take_append_of_le_length (by omega)]
  have e2 : posW (r ++ [t]) r.length = (lay (r.map pcW)).length := by unfold posW; rw [List.take_left]
  rw [e1]
  simp only [toksF, Nat.add_zero, e2, overAt, List.length_append, List.append_assoc, List.cons_append, List.nil_append]
theorem body_voc : ∀ (ks : List (Nat × Nat)), KsOk ks -> ∀ t ∈ bodyW ks, t ∈ vocW := by
 have semi : semiW ∈ vocW := by decide
 have tail : ∀ (ks : List (Nat × Nat)), KsOk ks -> ∀ t ∈ bodyW.tailW ks, t ∈ vocW := by
  intro ks
  induction ks with
  | nil => intro _ t ht; simp [bodyW.tailW] at ht
  | cons x r ih =>
   intro hk t ht
   simp only [bodyW.tailW, List.mem_cons, List.mem_append] at ht
   obtain ⟨hd, h9⟩ := hk x (by simp)
   rcases ht with rfl | ht | ht
   ·exact semi
   ·exact st_voc hd h9 t ht
   ·exact ih (fun z hz => hk z (by simp [hz])) t ht
 intro ks hk t ht
 cases ks with
 | nil => simp [bodyW] at ht
 | cons x r =>
  simp only [bodyW, List.mem_append] at ht
  obtain ⟨hd, h9⟩ := hk x (by simp)
  rcases ht with ht | ht
  ·exact st_voc hd h9 t ht
  ·exact tail r (fun z hz => hk z (by simp [hz])) t ht
theorem les_voc {ks : List (Nat × Nat)} (hk : KsOk ks) : ∀ t ∈ lesW ks, t ∈ vocW := by
 intro t ht
 unfold lesW at ht
 rw [List.mem_append, List.mem_append] at ht
 rcases ht with ht | ht | ht
 ·exact hdr_voc t ht
 ·exact body_voc ks hk t ht
 ·have : ∀ t ∈ [endW, dotW], t ∈ vocW := by decide
  exact this t ht
theorem trees_look : ∀ {ks : List (Nat × Nat)} {ts : List St}, KsOk ks -> TreesOf ks ts -> lookSts envL ts = none := by
 intro ks ts hk ht
 induction ht with
 | nil => rfl
 | cons x p _ ih =>
  obtain ⟨hd, h9⟩ := hk x (by simp)
  rw [lookSts, st_look hd h9 p, ih (fun z hz => hk z (by simp [hz]))]
  rfl
theorem check_whole {ks : List (Nat × Nat)} (hk : KsOk ks) (hl : (joinW (lesW ks)).length <= 600) : checkP (joinW (lesW ks)) = (0, 0) := by
 unfold checkP
 rw [if_neg (by omega), lex_join _ (les_voc hk)]
 simp only
 obtain ⟨ts, ht, hp⟩ := les_whole hk (posW (lesW ks)) (joinW (lesW ks)).length
 rw [hp, if_pos rfl]
 simp only
 unfold lookPr env0
 simp only
 rw [hdr_look, trees_look hk ht]
 rfl
theorem joinG_len_append (g : List UInt8) (a b : List (List UInt8)) : (joinG g (a ++ b)).length = (joinG g a).length + (joinG g b).length + if a = [] ∨ b = [] then 0 else g.length := by
 cases a with
 | nil => simp [joinG]
 | cons x a =>
  cases b with
  | nil => simp [joinG]
  | cons y b => simp [joinG]; omega
def kdOf (r : Int) : Nat := (pickI r 12).toNat
def dOf (r : Int) : Nat := (pickI (r.tdiv 16) 9).toNat
def lesGo : List Int -> List (Nat × Nat) -> List (Nat × Nat)
 | [], acc => acc
 | r :: rs, acc => if 500 < (joinW (hdrW ++ bodyW acc)).length then acc else lesGo rs (acc ++ [(kdOf r, dOf r)])
def lesKs (raws : List Int) : List (Nat × Nat) := lesGo (raws.take 12) []
theorem tail_snoc : ∀ (r : List (Nat × Nat)) (x : Nat × Nat), bodyW.tailW (r ++ [x]) = bodyW.tailW r ++ (semiW :: stW x.1 x.2)
 | [], x => by simp [bodyW.tailW]
 | y :: r, x => by simp [bodyW.tailW, tail_snoc r x]
theorem body_snoc (ks : List (Nat × Nat)) (x : Nat × Nat) : bodyW (ks ++ [x]) = if ks = [] then stW x.1 x.2 else bodyW ks ++ (semiW :: stW x.1 x.2) := by
 cases ks with
 | nil => simp [bodyW, bodyW.tailW]
 | cons y r => simp [bodyW, tail_snoc r x]
theorem st_len_all : ((List.range 12).all fun kd => (List.range 9).all fun k => decide ((joinW (stW kd k)).length <= 60)) = true := by decide +kernel
theorem st_len {kd k : Nat} (hd : kd < 12) (hk : k < 9) : (joinW (stW kd k)).length <= 60 := by
 have := List.all_eq_true.1 (List.all_eq_true.1 st_len_all kd (List.mem_range.2 hd)) k (List.mem_range.2 hk)
 exact of_decide_eq_true this
theorem hdr_jlen : (joinW hdrW).length <= 500 := by decide +kernel
theorem les_step_len {acc : List (Nat × Nat)} {x : Nat × Nat} (h1 : x.1 < 12) (h2 : x.2 < 9) (h : (joinW (hdrW ++ bodyW acc)).length <= 500) : (joinW (hdrW ++ bodyW (acc ++ [x]))).length <= 565 := by
 have hs := st_len h1 h2
 rw [body_snoc]
 split
 ·rename_i he
  have := hdr_jlen
  unfold joinW at *
  rw [joinG_len_append]
  have : (if hdrW = [] ∨ stW x.1 x.2 = [] then 0 else [(32 : UInt8)].length) <= 1 := by split <;> simp
  omega
 ·have e : hdrW ++ (bodyW acc ++ (semiW :: stW x.1 x.2)) = (hdrW ++ bodyW acc) ++ ([semiW] ++ stW x.1 x.2) := by simp
  rw [e]
  unfold joinW at *
  rw [joinG_len_append, joinG_len_append [32] [semiW]]
  have h3 : (joinG [32] [semiW]).length = 1 := rfl
  have h4 : ∀ (a b : Prop) [Decidable (a ∨ b)], (if a ∨ b then 0 else [(32 : UInt8)].length) <= 1 := by intro a b _; split <;> simp
  have := h4 (hdrW ++ bodyW acc = []) ([semiW] ++ stW x.1 x.2 = [])
  have := h4 ([semiW] = []) (stW x.1 x.2 = [])
  omega
theorem lesGo_ok : ∀ (rs : List Int) (acc : List (Nat × Nat)), KsOk acc -> (joinW (hdrW ++ bodyW acc)).length <= 565 -> KsOk (lesGo rs acc) /\ (joinW (hdrW ++ bodyW (lesGo rs acc))).length <= 565
 | [], acc, h, hl => ⟨h, hl⟩
 | r :: rs, acc, h, hl => by
  rw [lesGo]
  split
  ·exact ⟨h, hl⟩
  ·have h1 := (pickI_lt r (n := 12) (by omega)).1
   have h2 := (pickI_lt (r.tdiv 16) (n := 9) (by omega)).1
   refine lesGo_ok rs _ (fun x hx => ?_) (les_step_len h1 h2 (by omega))
   rcases List.mem_append.1 hx with hx | hx
   ·exact h x hx
   ·rw [List.mem_singleton] at hx; subst hx; exact ⟨h1, h2⟩
theorem lesKs_ok (raws : List Int) : KsOk (lesKs raws) /\ (joinW (lesW (lesKs raws))).length <= 600 := by
 obtain ⟨h1, h2⟩ := lesGo_ok (raws.take 12) [] (fun x hx => by cases hx) (by have := hdr_jlen; simp [bodyW]; omega)
 refine ⟨h1, ?_⟩
 unfold lesW
 rw [<- List.append_assoc]
 show (joinW (hdrW ++ bodyW (lesKs raws) ++ [endW, dotW])).length <= 600
 change (joinW (hdrW ++ bodyW (lesKs raws))).length <= 565 at h2
 unfold joinW at *
 rw [joinG_len_append]
 have h3 : (joinG [32] [endW, dotW]).length = 5 := rfl
 have h4 : ∀ (a b : Prop) [Decidable (a ∨ b)], (if a ∨ b then 0 else [(32 : UInt8)].length) <= 1 := by intro a b _; split <;> simp
 have := h4 (hdrW ++ bodyW (lesKs raws) = []) ([endW, dotW] = [])
 omega
end Go.Proofs.YtklobognaldjpaaGreat
