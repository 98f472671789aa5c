/- Plain: the programs that lecternkeep's lesson makes, as tokens. Plain: a statement that is cut short. -/
import Derived.Test.YtklobognaldjpaaGreatCLex1
import Derived.Test.YtklobognaldjpaaGreatCLook5
namespace Go.Proofs.YtklobognaldjpaaGreat

/-- A digit, as a text. -/
def dg (k : Nat) : List UInt8 := [UInt8.ofNat (48 + k)]

/-- What stands ahead of the statements. -/
def hdrW : List (List UInt8) := [[118, 97, 114], [97], [44], [98], [44], [99], [44], [122], [91], [53], [93], [59], [102, 117, 110, 99], [102], [40], [110], [41], [98, 101, 103, 105, 110], [105, 102], [110], [60], [49], [116, 104, 101, 110], [102], [58, 61], [49], [101, 108, 115, 101], [102], [58, 61], [110], [43], [102], [40], [110], [45], [49], [41], [101, 110, 100], [59], [112, 114, 111, 99], [112], [40], [117], [44], [118], [41], [118, 97, 114], [119], [59], [98, 101, 103, 105, 110], [119], [58, 61], [117], [42], [118], [59], [97], [58, 61], [119], [45], [98], [101, 110, 100], [59], [98, 101, 103, 105, 110]]

/-- A statement, by its kind and its digit. -/
def stW : Nat → Nat → List (List UInt8)
  | 0, _ => [[119, 114, 105, 116, 101], [97]]
  | 1, k => [[97], [58, 61], [97], [42], [51], [43], dg k]
  | 2, k => [[98], [58, 61], [98], [45], dg k]
  | 3, k => [[112], [40], [97], [43], [49], [44], dg k, [41]]
  | 4, k => [[119, 114, 105, 116, 101], [102], [40], dg k, [41]]
  | 5, k => [[119, 104, 105, 108, 101], [99], [60], dg k, [100, 111], [99], [58, 61], [99], [43], [49]]
  | 6, k => [[122], [91], dg k, [93], [58, 61], [97]]
  | 7, k => [[119, 114, 105, 116, 101], [122], [91], [48], [93], [37], dg k]
  | 8, _ => [[105, 102], [97], [60], [98], [111, 114], [110, 111, 116], [99], [116, 104, 101, 110], [119, 114, 105, 116, 101], [49], [101, 108, 115, 101], [98], [58, 61], [55]]
  | 9, _ => [[114, 101, 97, 100], [98]]
  | 10, k => [[119, 104, 105, 108, 101], [97], [60], [98], [97, 110, 100], [99], [60], dg k, [100, 111], [98, 101, 103, 105, 110], [99], [58, 61], [99], [43], [49], [59], [119, 114, 105, 116, 101], [99], [101, 110, 100]]
  | _, _ => [[97], [58, 61], [45], [40], [98], [43], [99], [41], [47], [50]]

def semiW : List UInt8 := [59]
def endW : List UInt8 := [101, 110, 100]
def dotW : List UInt8 := [46]

/-- The tokens of the statements, with a semicolon between each two. -/
def bodyW : List (Nat × Nat) → List (List UInt8)
  | [] => []
  | x :: r => stW x.1 x.2 ++ tailW r
where tailW : List (Nat × Nat) → List (List UInt8)
  | [] => []
  | x :: r => semiW :: (stW x.1 x.2 ++ tailW r)

def vocW : List (List UInt8) := [[118, 97, 114], [97], [44], [98], [99], [122], [91], [53], [93], [59], [102, 117, 110, 99], [102], [40], [110], [41], [98, 101, 103, 105, 110], [105, 102], [60], [49], [116, 104, 101, 110], [58, 61], [101, 108, 115, 101], [43], [45], [101, 110, 100], [112, 114, 111, 99], [112], [117], [118], [119], [42], [119, 114, 105, 116, 101], [51], [119, 104, 105, 108, 101], [100, 111], [48], [37], [111, 114], [110, 111, 116], [55], [114, 101, 97, 100], [97, 110, 100], [47], [50], [46], [52], [54], [56]]

/-- The kind and the number of a word. -/
def tkOf (t : List UInt8) : TK × Nat := match lex1 t with | .ok x => (x.1, x.2.2) | .error _ => (.over, 0)

/-- The tokens of words, at such places. -/
def toksF (p : Nat → Nat) : List (List UInt8) → List Tok
  | [] => []
  | t :: r => ⟨(tkOf t).1, ⟨t.toArray⟩, (tkOf t).2, p 0⟩ :: toksF (fun j => p (j + 1)) r

def overAt (e : Nat) : Tok := ⟨.over, ⟨#[]⟩, 0, e⟩

theorem toksF_append (p : Nat → Nat) : ∀ (a b : List (List UInt8)), toksF p (a ++ b) = toksF p a ++ toksF (fun j => p (a.length + j)) b
  | [], b => by simp [toksF]
  | t :: r, b => by
    simp only [List.cons_append, toksF, List.length_cons]
    rw [toksF_append (fun j => p (j + 1)) r b]
    congr 2
    congr 1
    funext j
    congr 1
    omega

theorem toksF_length (p : Nat → Nat) : ∀ l, (toksF p l).length = l.length
  | [] => rfl
  | t :: r => by simp only [toksF, List.length_cons]; rw [toksF_length]

theorem map_all {α β : Type} {f g : α → β} {l : List α} (h : l.map f = l.map g) {x : α} (hx : x ∈ l) : f x = g x := List.map_inj_left.1 h x hx


/-- A statement's tree. -/
def stT (p : Nat → Nat) (kd k : Nat) : St := (stmtD (toksF p (stW kd k ++ [semiW]) ++ [overAt 0]) 14 ⟨0, 0, 0⟩).1

def termW (b : Bool) : List UInt8 := if b then semiW else endW

/-- One statement of a list, and whether a semicolon stands behind it. -/
def oneRes (T : List Tok) (a n : Nat) : (List St × PS) × Bool := (listOne T (stmtD T 14) ⟨0, a, 0⟩, sees T (bs [59]) ⟨0, a, n⟩)

set_option maxRecDepth 1000000 in
theorem st_parse_all (p : Nat → Nat) (a : Nat) (X : List Tok) :
    (List.range 12).map (fun kd => (List.range 9).map fun k => [true, false].map fun b => oneRes (toksF p (stW kd k ++ [termW b]) ++ X) a (stW kd k).length)
    = (List.range 12).map (fun kd => (List.range 9).map fun k => [true, false].map fun b => (([stT p kd k], (⟨0, a, (stW kd k).length⟩ : PS)), b)) := by
  kernel_rfl

theorem st_parse {kd k : Nat} (hd : kd < 12) (hk : k < 9) (b : Bool) (p : Nat → Nat) (a : Nat) (X : List Tok) :
    listOne (toksF p (stW kd k ++ [termW b]) ++ X) (stmtD (toksF p (stW kd k ++ [termW b]) ++ X) 14) ⟨0, a, 0⟩ = ([stT p kd k], ⟨0, a, (stW kd k).length⟩)
    ∧ sees (toksF p (stW kd k ++ [termW b]) ++ X) (bs [59]) ⟨0, a, (stW kd k).length⟩ = b := by
  have h := map_all (map_all (map_all (st_parse_all p a X) (List.mem_range.2 hd)) (List.mem_range.2 hk)) (x := b) (by cases b <;> simp)
  exact ⟨congrArg Prod.fst h, congrArg Prod.snd h⟩


end Go.Proofs.YtklobognaldjpaaGreat

namespace Go.Proofs.YtklobognaldjpaaGreat

/-- What closes a program. -/
def finish (T : List Tok) (s : PS) : PS := endP T (want T (bs [46]) (want T (bs [101, 110, 100]) s))

def cutRes (T : List Tok) (acc : List St) (a : Nat) : PS := finish T (listLoop T (stmtD T 14) T.length acc ⟨0, a, 0⟩).2

set_option maxRecDepth 1000000 in
set_option maxHeartbeats 40000000 in
theorem st_cut_all (p : Nat → Nat) (a e : Nat) (acc : List St) :
    (List.range 12).map (fun kd => (List.range 9).map fun k => (List.range ((stW kd k).length + 2)).map fun c => cutRes (toksF p ((stW kd k ++ [endW]).take c) ++ [overAt e]) acc a)
    = (List.range 12).map (fun kd => (List.range 9).map fun k => (List.range ((stW kd k).length + 2)).map fun c => (⟨4, e, c⟩ : PS)) := by
  kernel_rfl

theorem st_cut {kd k c : Nat} (hd : kd < 12) (hk : k < 9) (hc : c < (stW kd k).length + 2) (p : Nat → Nat) (a e : Nat) (acc : List St) :
    cutRes (toksF p ((stW kd k ++ [endW]).take c) ++ [overAt e]) acc a = ⟨4, e, c⟩ :=
  map_all (map_all (map_all (st_cut_all p a e acc) (List.mem_range.2 hd)) (List.mem_range.2 hk)) (List.mem_range.2 hc)


end Go.Proofs.YtklobognaldjpaaGreat
