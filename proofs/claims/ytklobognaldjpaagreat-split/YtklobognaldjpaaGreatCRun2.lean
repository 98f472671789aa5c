/- Plain: what running a tree does. Plain: the code of a tree; a machine that runs it. Plain: what the machine does with the code of an expression is what the expression says. Plain: the machine and the  -/
import Derived.Test.YtklobognaldjpaaGreatCPure5
namespace Go.Proofs.YtklobognaldjpaaGreat
def wrapV (n : Int) : Int := Int.bmod n 4294967296
def truthV (b : Bool) : Int := if b then 1 else 0
def isW (op : ByteArray) (l : List UInt8) : Bool := op.toList == l
def binV (op : ByteArray) (x y : Int) : Option Int :=
 if isW op [43] then some (wrapV (x + y))
 else if isW op [45] then some (wrapV (x - y))
 else if isW op [42] then some (wrapV (x * y))
 else if isW op [47] then (if y = 0 then none else some (wrapV (x.tdiv y)))
 else if isW op [37] then (if y = 0 then none else some (wrapV (x.tmod y)))
 else if isW op [61] then some (truthV (x == y))
 else if isW op [35] then some (truthV (x != y))
 else if isW op [60] then some (truthV (decide (x < y)))
 else some (truthV (decide (x > y)))
structure RC where
 name : ByteArray
 vals : List Int
 deriving Inhabited
structure RS where
 glob : List RC
 here : List (ByteArray × Int)
 input : List Int
 out : List Int
 used : Nat
 stop : Option Nat
def RS.fail (s : RS) (c : Nat) : RS := { s with stop := some c }
def RS.unit (B : Nat) (s : RS) : RS := if B <= s.used then s.fail 0 else { s with used := s.used + 1 }
def eqB (a b : ByteArray) : Bool := a.toList == b.toList
def hereIx (l : List (ByteArray × Int)) (n : ByteArray) : Option Nat := l.findIdx? fun x => eqB x.1 n
def globIx (l : List RC) (n : ByteArray) : Option Nat := l.findIdx? fun x => eqB x.name n
def RS.get (s : RS) (n : ByteArray) : Int :=
 match hereIx s.here n with
 | some k => (s.here.getD k default).2
 | none => match globIx s.glob n with
  | some k => (s.glob.getD k default).vals.getD 0 0
  | none => 0
def RS.set (s : RS) (n : ByteArray) (v : Int) : RS :=
 match hereIx s.here n with
 | some k => { s with here := s.here.set k ((s.here.getD k default).1, v) }
 | none => match globIx s.glob n with
  | some k => { s with glob := s.glob.set k ⟨(s.glob.getD k default).name, (s.glob.getD k default).vals.set 0 v⟩ }
  | none => s
def RS.row (s : RS) (n : ByteArray) : List Int :=
 match globIx s.glob n with
 | some k => (s.glob.getD k default).vals
 | none => []
def RS.put (s : RS) (n : ByteArray) (x v : Int) : RS :=
 match globIx s.glob n with
 | some k => { s with glob := s.glob.set k ⟨(s.glob.getD k default).name, (s.glob.getD k default).vals.set x.toNat v⟩ }
 | none => s
def inRow (l : List Int) (x : Int) : Bool := decide (0 <= x /\ x < l.length)
section
variable (B : Nat) (call : Bool -> ByteArray -> List Int -> RS -> Int × RS)
mutual
def evalEx : Ex -> RS -> Int × RS
 | .nil, s => (0, s)
 | .num v, s => (v, s)
 | .var n _, s => (s.get n, s)
 | .elem n _ i, s =>
  if (evalEx i s).2.stop.isSome then (0, (evalEx i s).2)
  else if inRow ((evalEx i s).2.row n) (evalEx i s).1 then (((evalEx i s).2.row n).getD (evalEx i s).1.toNat 0, (evalEx i s).2)
  else (0, (evalEx i s).2.fail 9)
 | .call n _ args, s =>
  if (evalExs args s).2.stop.isSome then (0, (evalExs args s).2) else call true n (evalExs args s).1 (evalExs args s).2
 | .bin op l r, s =>
  if (evalEx l s).2.stop.isSome then (0, (evalEx l s).2)
  else if isW op [97, 110, 100] then
   (if (evalEx l s).1 = 0 then (0, (evalEx l s).2) else (truthV ((evalEx r (evalEx l s).2).1 != 0), (evalEx r (evalEx l s).2).2))
  else if isW op [111, 114] then
   (if (evalEx l s).1 ≠ 0 then (1, (evalEx l s).2) else (truthV ((evalEx r (evalEx l s).2).1 != 0), (evalEx r (evalEx l s).2).2))
  else if (evalEx r (evalEx l s).2).2.stop.isSome then (0, (evalEx r (evalEx l s).2).2)
  else match binV op (evalEx l s).1 (evalEx r (evalEx l s).2).1 with
   | some v => (v, (evalEx r (evalEx l s).2).2)
   | none => (0, (evalEx r (evalEx l s).2).2.fail 10)
 | .un op e, s => (if isW op [45] then wrapV (-(evalEx e s).1) else truthV ((evalEx e s).1 == 0), (evalEx e s).2)
def evalExs : List Ex -> RS -> List Int × RS
 | [], s => ([], s)
 | e :: r, s =>
  if (evalEx e s).2.stop.isSome then ([], (evalEx e s).2)
  else ((evalEx e s).1 :: (evalExs r (evalEx e s).2).1, (evalExs r (evalEx e s).2).2)
end
def loopR (test : RS -> Int × RS) (body : RS -> RS) : Nat -> RS -> RS
 | 0, s => s
 | k + 1, s =>
  if (s.unit B).stop.isSome then s.unit B
  else if (test (s.unit B)).2.stop.isSome then (test (s.unit B)).2
  else if (test (s.unit B)).1 = 0 then (test (s.unit B)).2
  else if (body (test (s.unit B)).2).stop.isSome then body (test (s.unit B)).2
  else loopR test body k (body (test (s.unit B)).2)
mutual
def runSt : St -> RS -> RS
 | .nil, s => s
 | .assign n _ e, s =>
  if (s.unit B).stop.isSome then s.unit B
  else if (evalEx call e (s.unit B)).2.stop.isSome then (evalEx call e (s.unit B)).2
  else (evalEx call e (s.unit B)).2.set n (evalEx call e (s.unit B)).1
 | .put n _ i e, s =>
  if (s.unit B).stop.isSome then s.unit B
  else if (evalEx call i (s.unit B)).2.stop.isSome then (evalEx call i (s.unit B)).2
  else if inRow ((evalEx call i (s.unit B)).2.row n) (evalEx call i (s.unit B)).1 then
   (if (evalEx call e (evalEx call i (s.unit B)).2).2.stop.isSome then (evalEx call e (evalEx call i (s.unit B)).2).2
    else (evalEx call e (evalEx call i (s.unit B)).2).2.put n (evalEx call i (s.unit B)).1 (evalEx call e (evalEx call i (s.unit B)).2).1)
  else (evalEx call i (s.unit B)).2.fail 9
 | .proc n _ args, s =>
  if (s.unit B).stop.isSome then s.unit B
  else if (evalExs call args (s.unit B)).2.stop.isSome then (evalExs call args (s.unit B)).2
  else (call false n (evalExs call args (s.unit B)).1 (evalExs call args (s.unit B)).2).2
 | .ite c t f, s =>
  if (s.unit B).stop.isSome then s.unit B
  else if (evalEx call c (s.unit B)).2.stop.isSome then (evalEx call c (s.unit B)).2
  else if (evalEx call c (s.unit B)).1 ≠ 0 then runSt t (evalEx call c (s.unit B)).2
  else runSt f (evalEx call c (s.unit B)).2
 | .loop c b, s => loopR B (evalEx call c) (runSt b) (B + 2) s
 | .block l, s => runSts l s
 | .write e, s =>
  if (s.unit B).stop.isSome then s.unit B
  else if (evalEx call e (s.unit B)).2.stop.isSome then (evalEx call e (s.unit B)).2
  else if 60 <= (evalEx call e (s.unit B)).2.out.length then (evalEx call e (s.unit B)).2.fail 12
  else { (evalEx call e (s.unit B)).2 with out := (evalEx call e (s.unit B)).2.out ++ [(evalEx call e (s.unit B)).1] }
 | .read n _, s =>
  if (s.unit B).stop.isSome then s.unit B
  else match (s.unit B).input with
   | [] => (s.unit B).fail 11
   | v :: r => ({ s.unit B with input := r }).set n v
def runSts : List St -> RS -> RS
 | [], s => s
 | x :: r, s => if (runSt x s).stop.isSome then runSt x s else runSts r (runSt x s)
end
end
def routineOf : List Gl -> ByteArray -> Option (Bool × Ro)
 | [], _ => none
 | .proc r :: l, n => if eqB r.name.1 n then some (false, r) else routineOf l n
 | .func r :: l, n => if eqB r.name.1 n then some (true, r) else routineOf l n
 | _ :: l, n => routineOf l n
def Ro.cells (r : Ro) : List ByteArray := (r.params ++ r.locals).map (·.1)
def Ro.own (f : Bool) (r : Ro) : Bool := f && !(r.cells.any fun n => eqB n r.name.1)
def Ro.enter (f : Bool) (r : Ro) (vs : List Int) : List (ByteArray × Int) :=
 (r.cells.zipIdx.map fun x => (x.1, vs.getD x.2 0)) ++ if r.own f then [(r.name.1, 0)] else []
def Ro.result (f : Bool) (r : Ro) (h : List (ByteArray × Int)) : Int := if r.own f then (h.getD r.cells.length default).2 else 0
def callR (B : Nat) (G : List Gl) : Nat -> Bool -> ByteArray -> List Int -> RS -> Int × RS
 | 0, _, _, _, s => (0, s.fail 13)
 | m + 1, f, n, vs, s =>
  if f && (s.unit B).stop.isSome then (0, s.unit B)
  else match routineOf G n with
   | none => (0, s)
   | some (_, r) =>
    (r.result f (runSts B (callR B G m) r.body { (if f then s.unit B else s) with here := r.enter f vs }).here,
     { runSts B (callR B G m) r.body { (if f then s.unit B else s) with here := r.enter f vs } with here := s.here })
def glob0 : Gl -> RC
 | .var n _ => ⟨n, [0]⟩
 | .arr n _ size _ => ⟨n, List.replicate size 0⟩
 | .proc r => ⟨r.name.1, []⟩
 | .func r => ⟨r.name.1, []⟩
def start (p : Pr) (input : List Int) : RS := ⟨p.globals.map glob0, [], input, [], 0, none⟩
def runPr (p : Pr) (input : List Int) (B : Nat) : RS := runSts B (callR B p.globals 30) p.body (start p input)
def outcome (p : Pr) (input : List Int) (fuel : Nat) : Nat × List Int × Nat :=
 ((match (runPr p input fuel).stop with | none => 0 | some 0 => 8 | some c => c), (runPr p input fuel).out, (runPr p input fuel).used)
structure CE where
 g : ByteArray -> Nat × Nat
 l : ByteArray -> Option Nat
 n : Nat
 res : ByteArray
def CE.get (E : CE) (n : ByteArray) : List Nat := match E.l n with | some a => [5, a] | none => [3, (E.g n).1]
def CE.set (E : CE) (n : ByteArray) : List Nat := match E.l n with | some a => [6, a] | none => if eqB n E.res then [6, E.n] else [4, (E.g n).1]
def opNum (op : ByteArray) : Nat :=
 if isW op [43] then 10 else if isW op [45] then 11 else if isW op [42] then 12 else if isW op [47] then 13 else if isW op [37] then 14
 else if isW op [61] then 15 else if isW op [35] then 16 else if isW op [60] then 17 else 18
def unNum (op : ByteArray) : Nat := if isW op [45] then 19 else 20
section
variable (E : CE)
mutual
def cEx : Nat -> Ex -> List Nat
 | _, .nil => []
 | _, .num v => [2, v]
 | _, .var n _ => E.get n
 | p, .elem n _ i => cEx p i ++ [7, (E.g n).1, (E.g n).2] ++ [8]
 | p, .call n _ args => cExs p args ++ [24, (E.g n).1, args.length]
 | p, .bin op l r =>
  if isW op [97, 110, 100] then
   cEx p l ++ [23, p + (cEx p l).length + 2 + (cEx (p + (cEx p l).length + 2) r).length + 3] ++ cEx (p + (cEx p l).length + 2) r ++ [21]
    ++ [22, p + (cEx p l).length + 2 + (cEx (p + (cEx p l).length + 2) r).length + 5] ++ [2, 0]
  else if isW op [111, 114] then
   cEx p l ++ [23, p + (cEx p l).length + 6] ++ [2, 1] ++ [22, p + (cEx p l).length + 6 + (cEx (p + (cEx p l).length + 6) r).length + 1] ++ cEx (p + (cEx p l).length + 6) r ++ [21]
  else cEx p l ++ cEx (p + (cEx p l).length) r ++ [opNum op]
 | p, .un op e => cEx p e ++ [unNum op]
def cExs : Nat -> List Ex -> List Nat
 | _, [] => []
 | p, e :: r => cEx p e ++ cExs (p + (cEx p e).length) r
end
def St.isNil : St -> Bool
 | .nil => true
 | _ => false
mutual
def cSt : Nat -> St -> List Nat
 | _, .nil => []
 | p, .assign n _ e => [1] ++ cEx E (p + 1) e ++ E.set n
 | p, .put n _ i e => [1] ++ (cEx E (p + 1) i ++ [7, (E.g n).1, (E.g n).2]) ++ cEx E (p + 1 + (cEx E (p + 1) i).length + 3) e ++ [9]
 | p, .proc n _ args => [1] ++ (cExs E (p + 1) args ++ [24, (E.g n).1, args.length])
 | p, .ite c t f =>
  if f.isNil then
   [1] ++ (cEx E (p + 1) c ++ [23, p + 1 + (cEx E (p + 1) c).length + 2 + (cSt (p + 1 + (cEx E (p + 1) c).length + 2) t).length] ++ cSt (p + 1 + (cEx E (p + 1) c).length + 2) t)
  else
   [1] ++ (cEx E (p + 1) c ++ [23, p + 1 + (cEx E (p + 1) c).length + 2 + (cSt (p + 1 + (cEx E (p + 1) c).length + 2) t).length + 2] ++ cSt (p + 1 + (cEx E (p + 1) c).length + 2) t
    ++ [22, p + 1 + (cEx E (p + 1) c).length + 2 + (cSt (p + 1 + (cEx E (p + 1) c).length + 2) t).length + 2 + (cSt (p + 1 + (cEx E (p + 1) c).length + 2 + (cSt (p + 1 + (cEx E (p + 1) c).length + 2) t).length + 2) f).length]
    ++ cSt (p + 1 + (cEx E (p + 1) c).length + 2 + (cSt (p + 1 + (cEx E (p + 1) c).length + 2) t).length + 2) f)
 | p, .loop c b =>
  [1] ++ (cEx E (p + 1) c ++ [23, p + 1 + (cEx E (p + 1) c).length + 2 + (cSt (p + 1 + (cEx E (p + 1) c).length + 2) b).length + 2] ++ cSt (p + 1 + (cEx E (p + 1) c).length + 2) b ++ [22, p])
 | p, .block l => cSts p l
 | p, .write e => [1] ++ cEx E (p + 1) e ++ [28]
 | _, .read n _ => [1] ++ [29] ++ E.set n
def cSts : Nat -> List St -> List Nat
 | _, [] => []
 | p, s :: r => cSt p s ++ cSts (p + (cSt p s).length) r
end
end
structure CG where
 words : List Nat
 places : Nat
 g : ByteArray -> Nat × Nat
def putG (g : ByteArray -> Nat × Nat) (n : ByteArray) (x : Nat × Nat) : ByteArray -> Nat × Nat := fun k => if eqB n k then x else g k
def ceOf (f : Bool) (g : ByteArray -> Nat × Nat) (r : Ro) : CE := ⟨g, fun n => r.cells.findIdx? fun x => eqB x n, r.cells.length, if f then r.name.1 else ⟨#[]⟩⟩
def cGl (c : CG) : Gl -> CG
 | .var n _ => ⟨c.words, c.places + 1, putG c.g n (c.places, 1)⟩
 | .arr n _ size _ => ⟨c.words, c.places + size, putG c.g n (c.places, size)⟩
 | .proc r => ⟨c.words ++ [25, r.locals.length] ++ cSts (ceOf false (putG c.g r.name.1 (c.words.length, 0)) r) (c.words.length + 2) r.body ++ [26], c.places, putG c.g r.name.1 (c.words.length, 0)⟩
 | .func r => ⟨c.words ++ [1] ++ [25, r.locals.length + 1] ++ cSts (ceOf true (putG c.g r.name.1 (c.words.length, 0)) r) (c.words.length + 3) r.body ++ [27, r.cells.length], c.places, putG c.g r.name.1 (c.words.length, 0)⟩
def cGls (c : CG) : List Gl -> CG
 | [] => c
 | x :: l => cGls (cGl c x) l
def cg0 : CG := ⟨[], 0, fun _ => (0, 0)⟩
def ceTop (c : CG) : CE := ⟨c.g, fun _ => none, 0, ⟨#[]⟩⟩
def cPr (p : Pr) : List Nat × Nat × Nat :=
 ((cGls cg0 p.globals).words ++ cSts (ceTop (cGls cg0 p.globals)) (cGls cg0 p.globals).words.length p.body ++ [0], (cGls cg0 p.globals).words.length, (cGls cg0 p.globals).places)
structure MS where
 pc : Nat
 places : List Int
 stack : List Int
 base : Nat
 calls : List (Nat × Nat)
 input : List Int
 out : List Int
 used : Nat
 over : Option Nat
def MS.end_ (m : MS) (c : Nat) : MS := { m with over := some c }
def MS.push (m : MS) (v : Int) : MS := { m with stack := m.stack ++ [v] }
def joinV (op : Nat) (x y : Int) : Option Int :=
 if op = 10 then some (wrapV (x + y)) else if op = 11 then some (wrapV (x - y)) else if op = 12 then some (wrapV (x * y))
 else if op = 15 then some (truthV (x == y)) else if op = 16 then some (truthV (x != y)) else if op = 17 then some (truthV (decide (x < y))) else if op = 18 then some (truthV (decide (x > y)))
 else if y = 0 then none else if op = 13 then some (wrapV (x.tdiv y)) else some (wrapV (x.tmod y))
section
variable (W : List Nat) (B : Nat)
def stepM (m : MS) : Option MS :=
 match W[m.pc]? with
 | none => none
 | some 0 => some (({ m with pc := m.pc + 1 } : MS).end_ 0)
 | some 1 => some (if m.used = B then ({ m with pc := m.pc + 1 } : MS).end_ 8 else { m with pc := m.pc + 1, used := m.used + 1 })
 | some 2 => (W[m.pc + 1]?).map fun (v : Nat) => ({ m with pc := m.pc + 2 } : MS).push (wrapV (v : Int))
 | some 3 => (W[m.pc + 1]?).bind fun a => (m.places[a]?).map fun v => ({ m with pc := m.pc + 2 } : MS).push v
 | some 4 => (W[m.pc + 1]?).bind fun a => (m.stack.getLast?).bind fun v => if a < m.places.length then some { m with pc := m.pc + 2, stack := m.stack.dropLast, places := m.places.set a v } else none
 | some 5 => (W[m.pc + 1]?).bind fun a => (m.stack[m.base + a]?).map fun v => ({ m with pc := m.pc + 2 } : MS).push v
 | some 6 => (W[m.pc + 1]?).bind fun a => (m.stack.getLast?).bind fun v => if m.base + a < m.stack.dropLast.length then some { m with pc := m.pc + 2, stack := m.stack.dropLast.set (m.base + a) v } else none
 | some 7 => (W[m.pc + 1]?).bind fun a => (W[m.pc + 2]?).bind fun n => (m.stack.getLast?).map fun x =>
    if x < 0 ∨ (n : Int) <= x then ({ m with pc := m.pc + 3, stack := m.stack.dropLast } : MS).end_ 9 else { m with pc := m.pc + 3, stack := m.stack.dropLast ++ [wrapV (a + x)] }
 | some 8 => (m.stack.getLast?).bind fun x => if 0 <= x then (m.places[x.toNat]?).map fun v => { m with pc := m.pc + 1, stack := m.stack.dropLast ++ [v] } else none
 | some 9 => (m.stack.getLast?).bind fun v => (m.stack.dropLast.getLast?).bind fun x =>
    if 0 <= x /\ x < m.places.length then some { m with pc := m.pc + 1, stack := m.stack.dropLast.dropLast, places := m.places.set x.toNat v } else none
 | some 19 => (m.stack.getLast?).map fun v => { m with pc := m.pc + 1, stack := m.stack.dropLast ++ [wrapV (-v)] }
 | some 20 => (m.stack.getLast?).map fun (v : Int) => { m with pc := m.pc + 1, stack := m.stack.dropLast ++ [truthV (v == 0)] }
 | some 21 => (m.stack.getLast?).map fun (v : Int) => { m with pc := m.pc + 1, stack := m.stack.dropLast ++ [truthV (v != 0)] }
 | some 22 => (W[m.pc + 1]?).map fun a => { m with pc := a }
 | some 23 => (W[m.pc + 1]?).bind fun a => (m.stack.getLast?).map fun v => if v = 0 then { m with pc := a, stack := m.stack.dropLast } else { m with pc := m.pc + 2, stack := m.stack.dropLast }
 | some 24 => (W[m.pc + 1]?).bind fun a => (W[m.pc + 2]?).bind fun n =>
    if m.calls.length = 30 then some (({ m with pc := m.pc + 3 } : MS).end_ 13)
    else if n <= m.stack.length then some { m with pc := a, calls := m.calls ++ [(m.pc + 3, m.base)], base := m.stack.length - n } else none
 | some 25 => (W[m.pc + 1]?).map fun n => { m with pc := m.pc + 2, stack := m.stack ++ List.replicate n 0 }
 | some 26 => (m.calls.getLast?).bind fun f => if m.base <= m.stack.length then some { m with pc := f.1, base := f.2, calls := m.calls.dropLast, stack := m.stack.take m.base } else none
 | some 27 => (W[m.pc + 1]?).bind fun a => (m.stack[m.base + a]?).bind fun v => (m.calls.getLast?).bind fun f =>
    if m.base <= m.stack.length then some { m with pc := f.1, base := f.2, calls := m.calls.dropLast, stack := m.stack.take m.base ++ [v] } else none
 | some 28 => (m.stack.getLast?).map fun v =>
    if m.out.length = 60 then ({ m with pc := m.pc + 1, stack := m.stack.dropLast } : MS).end_ 12 else { m with pc := m.pc + 1, stack := m.stack.dropLast, out := m.out ++ [v] }
 | some 29 => some (match m.input with
    | [] => ({ m with pc := m.pc + 1 } : MS).end_ 11
    | v :: r => { m with pc := m.pc + 1, stack := m.stack ++ [v], input := r })
 | some op => if 10 <= op /\ op <= 18 then
    (m.stack.getLast?).bind fun y => (m.stack.dropLast.getLast?).map fun x =>
      match joinV op x y with
      | some v => { m with pc := m.pc + 1, stack := m.stack.dropLast.dropLast ++ [v] }
      | none => ({ m with pc := m.pc + 1, stack := m.stack.dropLast.dropLast } : MS).end_ 10
  else none
inductive Rch : MS -> MS -> Prop
 | refl (m : MS) : Rch m m
 | step {m m1 m2 : MS} : m.over = none -> m.stack.length <= m.pc + (m.calls.length + 1) * 10000 -> stepM W B m = some m1 -> Rch m1 m2 -> Rch m m2
theorem Rch.trans {W : List Nat} {B : Nat} {a b c : MS} (h : Rch W B a b) (h2 : Rch W B b c) : Rch W B a c := by
 induction h with
 | refl => exact h2
 | step h0 hb h1 _ ih => exact .step h0 hb h1 (ih h2)
theorem Rch.one {W : List Nat} {B : Nat} {a b : MS} (h0 : a.over = none) (hb : a.stack.length <= a.pc + (a.calls.length + 1) * 10000) (h : stepM W B a = some b) : Rch W B a b := .step h0 hb h (.refl _)
end
def m0 (c : List Nat × Nat × Nat) (input : List Int) : MS := ⟨c.2.1, List.replicate c.2.2 0, [], 0, [], input, [], 0, none⟩
def CodeAt (W : List Nat) (p : Nat) (c : List Nat) : Prop := ∀ j x, c[j]? = some x -> W[p + j]? = some x
theorem CodeAt.left {W : List Nat} {p : Nat} {a b : List Nat} (h : CodeAt W p (a ++ b)) : CodeAt W p a := fun j x hj => by
 have hl : j < a.length := (List.getElem?_eq_some_iff.1 hj).1
 exact h j x (by rw [List.getElem?_append_left hl]; exact hj)
theorem CodeAt.right {W : List Nat} {p : Nat} {a b : List Nat} (h : CodeAt W p (a ++ b)) : CodeAt W (p + a.length) b := fun j x hj => by
 have := h (a.length + j) x (by rw [List.getElem?_append_right (by omega), Nat.add_sub_cancel_left]; exact hj)
 rw [<- this]; congr 1; omega
theorem CodeAt.one {W : List Nat} {p x : Nat} (h : CodeAt W p [x]) : W[p]? = some x := h 0 x rfl
theorem CodeAt.two {W : List Nat} {p x y : Nat} (h : CodeAt W p [x, y]) : W[p]? = some x /\ W[p + 1]? = some y := ⟨h 0 x rfl, h 1 y rfl⟩
theorem CodeAt.three {W : List Nat} {p x y z : Nat} (h : CodeAt W p [x, y, z]) : W[p]? = some x /\ W[p + 1]? = some y /\ W[p + 2]? = some z := ⟨h 0 x rfl, h 1 y rfl, h 2 z rfl⟩
def endCode (c : Nat) : Nat := if c = 0 then 8 else c
def Out (W : List Nat) (B : Nat) (m : MS) (s' : RS) (Q : MS -> Prop) : Prop :=
 (s'.stop = none -> ∃ m', Rch W B m m' /\ Q m') /\ (∀ c, s'.stop = some c -> ∃ m', Rch W B m m' /\ m'.over = some (endCode c) /\ m'.out = s'.out /\ m'.used = s'.used)
structure DC where
 S : List Int
 extra : List Int
 calls : List (Nat × Nat)
def shapeOf (l : List RC) : List (ByteArray × Nat) := l.map fun c => (c.name, c.vals.length)
def flat (l : List RC) : List Int := l.flatMap (·.vals)
def offOf (gs : List (ByteArray × Nat)) (k : Nat) : Nat := ((gs.take k).map (·.2)).sum
section
variable (W : List Nat) (B : Nat) (gs : List (ByteArray × Nat)) (hn : List ByteArray)
structure Sees (C : DC) (s : RS) (m : MS) (p : Nat) (ops : List Int) : Prop where
 pc : m.pc = p
 stack : m.stack = C.S ++ (s.here.map (·.2) ++ C.extra) ++ ops
 base : m.base = C.S.length
 calls : m.calls = C.calls
 places : m.places = flat s.glob
 input : m.input = s.input
 out : m.out = s.out
 used : m.used = s.used
 over : m.over = none
 stop : s.stop = none
 lid : s.used <= B
 outs : s.out.length <= 60
 shape : shapeOf s.glob = gs
 names : s.here.map (·.1) = hn
 lim : ops.length <= p
 deep : C.S.length + (hn.length + C.extra.length) <= (C.calls.length + 1) * 10000
end
section
variable {W : List Nat} {B : Nat} {gs : List (ByteArray × Nat)} {hn : List ByteArray}
theorem Out.now {m : MS} {s' : RS} {Q : MS -> Prop} (hs : s'.stop = none) (m' : MS) (hr : Rch W B m m') (hq : Q m') : Out W B m s' Q :=
 ⟨fun _ => ⟨m', hr, hq⟩, fun c hc => by rw [hs] at hc; cases hc⟩
theorem Out.dies {m : MS} {s' : RS} {Q : MS -> Prop} {c : Nat} (hs : s'.stop = some c) (m' : MS) (hr : Rch W B m m') (ho : m'.over = some (endCode c)) (h1 : m'.out = s'.out) (h2 : m'.used = s'.used) : Out W B m s' Q :=
 ⟨(fun h => by rw [hs] at h; cases h), fun c' hc => by rw [hs] at hc; cases hc; exact ⟨m', hr, ho, h1, h2⟩⟩
theorem Out.stopped {m : MS} {s' : RS} {Q Q' : MS -> Prop} (h : Out W B m s' Q) (hs : s'.stop.isSome = true) : Out W B m s' Q' :=
 ⟨(fun h0 => by rw [h0] at hs; cases hs), h.2⟩
theorem Out.bind {m : MS} {s1 s2 : RS} {Q1 Q2 : MS -> Prop} (h : Out W B m s1 Q1) (hs : ¬ s1.stop.isSome = true) (hk : ∀ m1, Q1 m1 -> Out W B m1 s2 Q2) : Out W B m s2 Q2 := by
 have hn : s1.stop = none := by cases h0 : s1.stop with
  | none => rfl
  | some c => rw [h0] at hs; exact absurd rfl hs
 obtain ⟨m1, hr, hq⟩ := h.1 hn
 obtain ⟨h1, h2⟩ := hk m1 hq
 refine ⟨fun h0 => ?_, fun c hc => ?_⟩
 ·obtain ⟨m2, hr2, hq2⟩ := h1 h0; exact ⟨m2, hr.trans hr2, hq2⟩
 ·obtain ⟨m2, hr2, r⟩ := h2 c hc; exact ⟨m2, hr.trans hr2, r⟩
theorem Out.mono {m : MS} {s' : RS} {Q Q' : MS -> Prop} (h : Out W B m s' Q) (hq : ∀ m', Q m' -> Q' m') : Out W B m s' Q' :=
 ⟨fun h0 => by obtain ⟨m', hr, h1⟩ := h.1 h0; exact ⟨m', hr, hq m' h1⟩, h.2⟩
theorem Out.after {m m1 : MS} {s' : RS} {Q : MS -> Prop} (hr : Rch W B m m1) (h : Out W B m1 s' Q) : Out W B m s' Q :=
 ⟨fun h0 => by obtain ⟨m', hr', h1⟩ := h.1 h0; exact ⟨m', hr.trans hr', h1⟩, fun c hc => by obtain ⟨m', hr', h1⟩ := h.2 c hc; exact ⟨m', hr.trans hr', h1⟩⟩
theorem last_snoc (a : List Int) (v : Int) : (a ++ [v]).getLast? = some v := by simp
theorem drop_snoc (a : List Int) (v : Int) : (a ++ [v]).dropLast = a := by simp
theorem sees_top {C : DC} {s : RS} {m : MS} {p : Nat} {ops : List Int} {v : Int} (h : Sees B gs hn C s m p (ops ++ [v])) : m.stack.getLast? = some v /\ m.stack.dropLast = C.S ++ (s.here.map (·.2) ++ C.extra) ++ ops := by
 rw [h.stack, <- List.append_assoc]
 exact ⟨last_snoc _ _, drop_snoc _ _⟩
theorem Sees.small {C : DC} {s : RS} {m : MS} {p : Nat} {ops : List Int} (h : Sees B gs hn C s m p ops) : m.stack.length <= m.pc + (m.calls.length + 1) * 10000 := by
 have h1 := h.lim
 have h2 := h.deep
 have h3 : s.here.length = hn.length := by rw [<- h.names, List.length_map]
 rw [h.pc, h.calls, h.stack]
 simp only [List.length_append, List.length_map]
 omega
theorem Sees.goes {C : DC} {s : RS} {m : MS} {p p' : Nat} {ops ops' : List Int} (h : Sees B gs hn C s m p ops)
  (hl : ops'.length = 0 ∨ ops'.length + p <= p' + ops.length := by first | exact Or.inl rfl | exact Or.inr (by simp only [List.length_append, List.length_cons, List.length_nil]; omega)) :
  Sees B gs hn C s { m with pc := p', stack := C.S ++ (s.here.map (·.2) ++ C.extra) ++ ops' } p' ops' :=
 ⟨rfl, rfl, h.base, h.calls, h.places, h.input, h.out, h.used, h.over, h.stop, h.lid, h.outs, h.shape, h.names, by have := h.lim; omega, h.deep⟩
def okVar (E : CE) (gs : List (ByteArray × Nat)) (hn : List ByteArray) (n : ByteArray) : Prop :=
 (∃ i, hn.findIdx? (fun x => eqB x n) = some i /\ E.l n = some i) ∨
 (hn.findIdx? (fun x => eqB x n) = none /\ E.l n = none /\ ∃ k, gs.findIdx? (fun x => eqB x.1 n) = some k /\ (gs.getD k default).2 = 1 /\ (E.g n).1 = offOf gs k)
def okArr (E : CE) (gs : List (ByteArray × Nat)) (n : ByteArray) : Prop := ∃ k, gs.findIdx? (fun x => eqB x.1 n) = some k /\ E.g n = (offOf gs k, (gs.getD k default).2)
mutual
def okEx (E : CE) (gs : List (ByteArray × Nat)) (hn : List ByteArray) (okC : Bool -> ByteArray -> Nat -> Prop) : Ex -> Prop
 | .nil => False
 | .num v => v <= 2147483647
 | .var n _ => okVar E gs hn n
 | .elem n _ i => okArr E gs n /\ okEx E gs hn okC i
 | .call n _ args => okC true n args.length /\ okExs E gs hn okC args
 | .bin _ l r => okEx E gs hn okC l /\ okEx E gs hn okC r
 | .un _ e => okEx E gs hn okC e
def okExs (E : CE) (gs : List (ByteArray × Nat)) (hn : List ByteArray) (okC : Bool -> ByteArray -> Nat -> Prop) : List Ex -> Prop
 | [] => True
 | e :: r => okEx E gs hn okC e /\ okExs E gs hn okC r
end
theorem findIdx_map {α β : Type} (f : α -> β) (p : β -> Bool) : ∀ l : List α, (l.map f).findIdx? p = l.findIdx? (fun x => p (f x))
 | [] => rfl
 | a :: l => by simp [List.findIdx?_cons, findIdx_map f p l]
theorem hereIx_names (l : List (ByteArray × Int)) (n : ByteArray) : hereIx l n = (l.map (·.1)).findIdx? (fun x => eqB x n) := by
 unfold hereIx; rw [findIdx_map]
theorem globIx_shape (l : List RC) (n : ByteArray) : globIx l n = (shapeOf l).findIdx? (fun x => eqB x.1 n) := by
 unfold globIx shapeOf; rw [findIdx_map]
theorem flat_off (l : List RC) (k : Nat) : (flat (l.take k)).length = offOf (shapeOf l) k := by
 unfold flat offOf shapeOf
 rw [List.length_flatMap, <- List.map_take, List.map_map]
 rfl
theorem findIdx_lt {α : Type} {p : α -> Bool} {l : List α} {k : Nat} (h : l.findIdx? p = some k) : k < l.length := by
 rw [List.findIdx?_eq_some_iff_getElem] at h
 obtain ⟨h1, _⟩ := h
 exact h1
theorem flat_split (l : List RC) {k : Nat} (hk : k < l.length) : flat l = flat (l.take k) ++ ((l.getD k default).vals ++ flat (l.drop (k + 1))) := by
 have e : l = l.take k ++ l[k] :: l.drop (k + 1) := by rw [<- List.drop_eq_getElem_cons hk, List.take_append_drop]
 have e2 : l.getD k default = l[k] := by simp [List.getD, hk]
 rw [e2]
 conv => lhs; rw [e]
 unfold flat
 rw [List.flatMap_append, List.flatMap_cons]
theorem shape_get (l : List RC) (k : Nat) (hk : k < l.length) : ((shapeOf l).getD k default).2 = (l.getD k default).vals.length := by
 simp [shapeOf, List.getD, hk]
theorem flat_get (l : List RC) {k i : Nat} (hk : k < l.length) (hi : i < (l.getD k default).vals.length) : (flat l)[offOf (shapeOf l) k + i]? = some ((l.getD k default).vals.getD i 0) := by
 rw [flat_split l hk, List.getElem?_append_right (by rw [flat_off]; omega), flat_off, Nat.add_sub_cancel_left, List.getElem?_append_left hi]
 generalize (l.getD k default).vals = vs at *
 rw [List.getD_eq_getElem?_getD, List.getElem?_eq_getElem hi]
 rfl
theorem flat_set (l : List RC) {k i : Nat} (hk : k < l.length) (hi : i < (l.getD k default).vals.length) (v : Int) :
  flat (l.set k ⟨(l.getD k default).name, (l.getD k default).vals.set i v⟩) = (flat l).set (offOf (shapeOf l) k + i) v /\ shapeOf (l.set k ⟨(l.getD k default).name, (l.getD k default).vals.set i v⟩) = shapeOf l := by
 constructor
 ·have h1 := flat_split (l.set k ⟨(l.getD k default).name, (l.getD k default).vals.set i v⟩) (k := k) (by simpa using hk)
  have e1 : (l.set k ⟨(l.getD k default).name, (l.getD k default).vals.set i v⟩).getD k default = ⟨(l.getD k default).name, (l.getD k default).vals.set i v⟩ := by simp [List.getD, hk]
  rw [e1] at h1
  rw [h1, flat_split l hk]
  have e2 : (l.set k ⟨(l.getD k default).name, (l.getD k default).vals.set i v⟩).take k = l.take k := by rw [List.take_set_of_le (Nat.le_refl _)]
  have e3 : (l.set k ⟨(l.getD k default).name, (l.getD k default).vals.set i v⟩).drop (k + 1) = l.drop (k + 1) := by rw [List.drop_set_of_lt (by omega)]
  rw [e2, e3, List.set_append_right _ _ (by rw [flat_off]; omega), flat_off, Nat.add_sub_cancel_left, List.set_append_left _ _ hi]
 ·unfold shapeOf
  rw [List.map_set]
  apply List.ext_getElem
  ·simp
  ·intro j h1 h2
   by_cases e : k = j
   ·subst e; simp [List.getD, hk]
   ·simp [e]
theorem join_bin (op : ByteArray) (x y : Int) : joinV (opNum op) x y = binV op x y := by
 unfold opNum binV
 by_cases h : isW op [43] = true
 ·rw [if_pos h, if_pos h]; rfl
 rw [if_neg h, if_neg h]
 clear h
 by_cases h : isW op [45] = true
 ·rw [if_pos h, if_pos h]; rfl
 rw [if_neg h, if_neg h]
 clear h
 by_cases h : isW op [42] = true
 ·rw [if_pos h, if_pos h]; rfl
 rw [if_neg h, if_neg h]
 clear h
 by_cases h : isW op [47] = true
 ·rw [if_pos h, if_pos h]; rfl
 rw [if_neg h, if_neg h]
 clear h
 by_cases h : isW op [37] = true
 ·rw [if_pos h, if_pos h]; rfl
 rw [if_neg h, if_neg h]
 clear h
 by_cases h : isW op [61] = true
 ·rw [if_pos h, if_pos h]; rfl
 rw [if_neg h, if_neg h]
 clear h
 by_cases h : isW op [35] = true
 ·rw [if_pos h, if_pos h]; rfl
 rw [if_neg h, if_neg h]
 clear h
 by_cases h : isW op [60] = true
 ·rw [if_pos h, if_pos h]; rfl
 rw [if_neg h, if_neg h]
 clear h
 rfl
theorem op_range (op : ByteArray) : 10 <= opNum op /\ opNum op <= 18 := by
 unfold opNum
 repeat' split
 all_goals decide
end
theorem wrapV_id {v : Int} (h1 : -2147483648 <= v) (h2 : v <= 2147483647) : wrapV v = v := by
 unfold wrapV Int.bmod
 simp only
 split <;> omega
def CallOk (W : List Nat) (B : Nat) (E : CE) (gs : List (ByteArray × Nat)) (hn : List ByteArray) (okC : Bool -> ByteArray -> Nat -> Prop) (call : Bool -> ByteArray -> List Int -> RS -> Int × RS) (d : Nat) : Prop :=
 ∀ (f : Bool) (n : ByteArray) (vs : List Int) (C : DC) (s : RS) (m : MS) (p : Nat) (ops : List Int), okC f n vs.length -> C.calls.length = d -> CodeAt W p [24, (E.g n).1, vs.length] -> Sees B gs hn C s m p (ops ++ vs) ->
  Out W B m (call f n vs s).2 (fun m' => Sees B gs hn C (call f n vs s).2 m' (p + 3) (ops ++ if f then [(call f n vs s).1] else []))
section
variable {W : List Nat} {B : Nat} {E : CE} {gs : List (ByteArray × Nat)} {hn : List ByteArray} {okC : Bool -> ByteArray -> Nat -> Prop} {call : Bool -> ByteArray -> List Int -> RS -> Int × RS} {d : Nat}
theorem step_push {C : DC} {s : RS} {m : MS} {p v : Nat} {ops : List Int} (h : Sees B gs hn C s m p ops) (hc : CodeAt W p [2, v]) (hv : v <= 2147483647) :
  Rch W B m { m with pc := p + 2, stack := C.S ++ (s.here.map (·.2) ++ C.extra) ++ (ops ++ [(v : Int)]) } := by
 obtain ⟨h0, h1⟩ := hc.two
 refine Rch.one h.over h.small ?_
 unfold stepM
 rw [h.pc, h0]
 simp only [h1, Option.map_some, MS.push]
 rw [wrapV_id (by omega) (by omega), h.stack, List.append_assoc]
theorem sim_var {C : DC} {s : RS} {m : MS} {p : Nat} {ops : List Int} {n : ByteArray} (h : Sees B gs hn C s m p ops) (ho : okVar E gs hn n) (hc : CodeAt W p (E.get n)) :
  Rch W B m { m with pc := p + (E.get n).length, stack := C.S ++ (s.here.map (·.2) ++ C.extra) ++ (ops ++ [s.get n]) } := by
 rcases ho with ⟨i, h1, h2⟩ | ⟨h1, h2, k, h3, h4, h5⟩
 ·unfold CE.get at hc ⊢
  rw [h2] at hc ⊢
  obtain ⟨c0, c1⟩ := hc.two
  have hi : i < s.here.length := by have := findIdx_lt h1; rw [<- h.names, List.length_map] at this; exact this
  refine Rch.one h.over h.small ?_
  unfold stepM
  rw [h.pc, c0]
  have hg : m.stack[m.base + i]? = some (s.get n) := by
   rw [h.stack, h.base, List.append_assoc, List.getElem?_append_right (by omega), Nat.add_sub_cancel_left, List.append_assoc, List.getElem?_append_left (by rw [List.length_map]; exact hi)]
   unfold RS.get
   rw [hereIx_names, h.names, h1]
   simp [List.getD, hi]
  simp only [c1, Option.bind_some, hg, Option.map_some, MS.push]
  rw [h.stack, List.append_assoc]
  rfl
 ·unfold CE.get at hc ⊢
  rw [h2] at hc ⊢
  obtain ⟨c0, c1⟩ := hc.two
  have hk : k < s.glob.length := by have := findIdx_lt h3; rw [<- h.shape] at this; simpa [shapeOf] using this
  refine Rch.one h.over h.small ?_
  unfold stepM
  rw [h.pc, c0]
  have hv : (s.glob.getD k default).vals.length = 1 := by rw [<- shape_get _ _ hk, h.shape, h4]
  have hg : m.places[(E.g n).1]? = some (s.get n) := by
   have := flat_get s.glob hk (i := 0) (by omega)
   rw [h.shape, Nat.add_zero] at this
   rw [h.places, h5, this]
   unfold RS.get
   rw [hereIx_names, h.names, h1, globIx_shape, h.shape, h3]
  simp only [c1, Option.bind_some, hg, Option.map_some, MS.push]
  rw [h.stack, List.append_assoc]
  rfl
theorem step_join {C : DC} {s : RS} {m : MS} {p op : Nat} {ops : List Int} {x y : Int} (h : Sees B gs hn C s m p (ops ++ [x] ++ [y])) (hc : W[p]? = some op) (h1 : 10 <= op) (h2 : op <= 18) :
  stepM W B m = some (match joinV op x y with
    | some v => { m with pc := p + 1, stack := C.S ++ (s.here.map (·.2) ++ C.extra) ++ (ops ++ [v]) }
    | none => ({ m with pc := p + 1, stack := C.S ++ (s.here.map (·.2) ++ C.extra) ++ ops } : MS).end_ 10) := by
 obtain ⟨t1, t2⟩ := sees_top h
 have t3 : m.stack.dropLast.getLast? = some x /\ m.stack.dropLast.dropLast = C.S ++ (s.here.map (·.2) ++ C.extra) ++ ops := by
  rw [t2, <- List.append_assoc]
  exact ⟨last_snoc _ _, drop_snoc _ _⟩
 unfold stepM
 rw [h.pc, hc]
 have : op = 10 ∨ op = 11 ∨ op = 12 ∨ op = 13 ∨ op = 14 ∨ op = 15 ∨ op = 16 ∨ op = 17 ∨ op = 18 := by omega
 rcases this with rfl | rfl | rfl | rfl | rfl | rfl | rfl | rfl | rfl
 all_goals
  simp only [t1, t3.1, t3.2, Option.bind_some, Option.map_some, List.append_assoc]
  rfl
end
def Grows (call : Bool -> ByteArray -> List Int -> RS -> Int × RS) : Prop := ∀ f n vs s, s.used <= (call f n vs s).2.used
theorem used_unit (B : Nat) (s : RS) : s.used <= (s.unit B).used := by
 unfold RS.unit
 split
 ·exact Nat.le_refl _
 ·exact Nat.le_succ _
theorem used_set (s : RS) (n : ByteArray) (v : Int) : (s.set n v).used = s.used := by
 unfold RS.set; split
 ·rfl
 ·split <;> rfl
theorem used_put (s : RS) (n : ByteArray) (x v : Int) : (s.put n x v).used = s.used := by
 unfold RS.put; split <;> rfl
section
variable {B : Nat} {call : Bool -> ByteArray -> List Int -> RS -> Int × RS}
mutual
theorem used_ex (hc : Grows call) : ∀ (e : Ex) (s : RS), s.used <= (evalEx call e s).2.used
 | .nil, s => by rw [evalEx]; exact Nat.le_refl _
 | .num _, s => by rw [evalEx]; exact Nat.le_refl _
 | .var _ _, s => by rw [evalEx]; exact Nat.le_refl _
 | .elem n p i, s => by
  have h := used_ex hc i s
  rw [evalEx]; split
  ·exact h
  ·split <;> exact h
 | .call n p args, s => by
  have h := used_exs hc args s
  rw [evalEx]; split
  ·exact h
  ·exact Nat.le_trans h (hc _ _ _ _)
 | .bin op l r, s => by
  have h := used_ex hc l s
  have h2 := Nat.le_trans h (used_ex hc r (evalEx call l s).2)
  rw [evalEx]; split
  ·exact h
  ·split
   ·split
    ·exact h
    ·exact h2
   ·split
    ·split
     ·exact h
     ·exact h2
    ·split
     ·exact h2
     ·split <;> exact h2
 | .un op e, s => by rw [evalEx]; exact used_ex hc e s
theorem used_exs (hc : Grows call) : ∀ (l : List Ex) (s : RS), s.used <= (evalExs call l s).2.used
 | [], s => by rw [evalExs]; exact Nat.le_refl _
 | e :: l, s => by
  have h := used_ex hc e s
  rw [evalExs]; split
  ·exact h
  ·exact Nat.le_trans h (used_exs hc l _)
end
theorem used_loop {test : RS -> Int × RS} {body : RS -> RS} (ht : ∀ s, s.used <= (test s).2.used) (hb : ∀ s, s.used <= (body s).used) : ∀ (k : Nat) (s : RS), s.used <= (loopR B test body k s).used
 | 0, s => by rw [loopR]; exact Nat.le_refl _
 | k + 1, s => by
  have h0 := used_unit B s
  have h1 := Nat.le_trans h0 (ht (s.unit B))
  have h2 := Nat.le_trans h1 (hb (test (s.unit B)).2)
  rw [loopR]; split
  ·exact h0
  ·split
   ·exact h1
   ·split
    ·exact h1
    ·split
     ·exact h2
     ·exact Nat.le_trans h2 (used_loop ht hb k _)
mutual
theorem used_st (hc : Grows call) : ∀ (t : St) (s : RS), s.used <= (runSt B call t s).used
 | .nil, s => by rw [runSt]; exact Nat.le_refl _
 | .assign n p e, s => by
  have h0 := used_unit B s
  have h1 := Nat.le_trans h0 (used_ex hc e (s.unit B))
  rw [runSt]; split
  ·exact h0
  ·split
   ·exact h1
   ·rw [used_set]; exact h1
 | .put n p i e, s => by
  have h0 := used_unit B s
  have h1 := Nat.le_trans h0 (used_ex hc i (s.unit B))
  have h2 := Nat.le_trans h1 (used_ex hc e _)
  rw [runSt]; split
  ·exact h0
  ·split
   ·exact h1
   ·split
    ·split
     ·exact h2
     ·rw [used_put]; exact h2
    ·exact h1
 | .proc n p args, s => by
  have h0 := used_unit B s
  have h1 := Nat.le_trans h0 (used_exs hc args (s.unit B))
  rw [runSt]; split
  ·exact h0
  ·split
   ·exact h1
   ·exact Nat.le_trans h1 (hc _ _ _ _)
 | .ite c t f, s => by
  have h0 := used_unit B s
  have h1 := Nat.le_trans h0 (used_ex hc c (s.unit B))
  rw [runSt]; split
  ·exact h0
  ·split
   ·exact h1
   ·split
    ·exact Nat.le_trans h1 (used_st hc t _)
    ·exact Nat.le_trans h1 (used_st hc f _)
 | .loop c b, s => by rw [runSt]; exact used_loop (used_ex hc c) (used_st hc b) _ _
 | .block l, s => by rw [runSt]; exact used_sts hc l s
 | .write e, s => by
  have h0 := used_unit B s
  have h1 := Nat.le_trans h0 (used_ex hc e (s.unit B))
  rw [runSt]; split
  ·exact h0
  ·split
   ·exact h1
   ·split <;> exact h1
 | .read n p, s => by
  have h0 := used_unit B s
  rw [runSt]; split
  ·exact h0
  ·split
   ·exact h0
   ·rw [used_set]; exact h0
theorem used_sts (hc : Grows call) : ∀ (l : List St) (s : RS), s.used <= (runSts B call l s).used
 | [], s => by rw [runSts]; exact Nat.le_refl _
 | x :: l, s => by
  have h := used_st hc x s
  rw [runSts]; split
  ·exact h
  ·exact Nat.le_trans h (used_sts hc l _)
end
theorem grows_call (B : Nat) (G : List Gl) : ∀ m, Grows (callR B G m)
 | 0 => fun f n vs s => by rw [callR]; exact Nat.le_refl _
 | m + 1 => fun f n vs s => by
  rw [callR]; split
  ·exact used_unit B s
  ·split
   ·exact Nat.le_refl _
   ·rename_i r _
    have h := used_sts (B := B) (grows_call B G m) r.body { (if f then s.unit B else s) with here := r.enter f vs }
    refine Nat.le_trans ?_ h
    cases f
    ·exact Nat.le_refl _
    ·exact used_unit B s
end
end Go.Proofs.YtklobognaldjpaaGreat
