/- Plain functions, no program: what a text's tokens are, how t -/
import Derived.Lib.Strings
import Derived.Lib.Bytealg
import Derived.Lib.IndexLaws
import Derived.Test.YtklobognaldjpaaGreatRows
import Derived.WalkKit
import Derived.Deep.Light
import Derived.WalkSpells
import Derived.WalkLawsBesides
import Derived.Lib.Slices
import Derived.Lib.Walk
set_option maxHeartbeats 1000000
set_option maxRecDepth 100000
namespace Go.Proofs.YtklobognaldjpaaGreat
set_option linter.defProp false
def AA:= @Nat.le_refl
def AG:= @List.length_append
def AT:= @Nat.le_trans
def AaK:= @List.getElem?_replicate
def AaL:= @List.mem_of_find?_eq_some
def AaM:= @List.takeWhile_sublist
def Ae:= @if_neg
def Ag:= @if_pos
def B6:= @Nat.zero_le
def BD:= @List.mem_append
def BF:= @List.length_map
def BH:= @List.getElem?_eq_some_iff
def Bb:= @List.getElem?_eq_getElem
def Bg:= @List.length_cons
def Bh:= @Go.World.cell?_setCell_other
def Bm:= @List.length_nil
def C0:= @List.mem_cons
def C4:= @congrArg
def C7:= @Option.bind_eq_some_iff
def CC:= @List.getElem?_map
def CD:= @List.mem_map
def CF:= @Nat.lt_of_lt_of_le
def CR:= @List.getElem?_append_left
def CS:= @List.getElem?_append_right
def Cl:= @Go.World.cell?_alloc_new
def Ct:= @List.mem_of_getElem?
def Cu:= @Go.World.frozen?_setCell
def D4:= @List.getElem_mem
def D5:= @Option.map_eq_some_iff
def DO:= @List.append_assoc
def DW:= @Go.World.cell?_setCell_same
def Dg:= @List.getD_eq_getElem?_getD
def E6:= @List.map_append
def E7:= @List.take_length
def EN:= @List.take_succ_cons
def EU:= @Go.Lib.toList_data
def EW:= @Go.World.cell?_alloc_lt
def Eo:= @List.take_zero
def Ey:= @Ne.symm
def F8:= @List.mem_cons_of_mem
def FH:= @Option.some.inj
def Gc:= @Go.World.frozen?_alloc_new
def Gz:= @Nat.add_assoc
def Hj:= @List.length_drop
def Hk:= @List.mem_singleton
def Hl:= @List.nil_append
def Hm:= @List.pairwise_cons
def Hr:= @if_true
def I0:= @List.not_mem_nil
def I1:= @List.take_of_length_le
def I2:= @Nat.sub_self
def I3:= @Option.map_some
def ID:= @if_false
def IX:= @List.any_eq_true
def IY:= @List.append_nil
def IZ:= @List.cons_append
def Ib:= @List.length_dropLast
def Ic:= @Nat.le_succ
def Is:= @List.getElem?_of_mem
def It:= @List.length_take
def Iu:= @List.mem_append_left
def Iv:= @Option.bind_some
def J4:= @List.getElem?_cons_succ
def J5:= @List.map_set
def J6:= @List.mem_append_right
def J8:= @Prod.mk.injEq
def Jl:= @or_false
def Ju:= @Array.getElem?_eq_some_iff
def Jv:= @Bool.false_eq_true
def Jy:= @Nat.add_sub_cancel_left
def KN:= @Option.isSome_iff_exists
def KO:= @Option.isSome_none
def Lo:= @Int.toNat_natCast
def Lq:= @List.length_set
def Mg:= @Except.ok.injEq
def Mi:= @List.eq_nil_of_length_eq_zero
def Mk:= @List.length_pos_iff
def Ml:= @List.length_replicate
def Mm:= @List.map_cons
def Mn:= @List.map_map
def Mo:= @List.mem_or_eq_of_mem_set
def Mp:= @List.take_add_one
def Mq:= @Nat.add_zero
def Mr:= @Nat.mul_one
def Mt:= @Option.or_assoc
def N4:= @beq_iff_eq
def NG:= @Bool.and_eq_true
def NH:= @Bool.false_ne_true
def NJ:= @Go.Calls.mono
def NN:= @List.drop_eq_getElem_cons
def NO:= @List.find?_eq_none
def NP:= @List.findIdx?_eq_none_iff
def NQ:= @List.getElem?_eq_none
def NR:= @List.map_nil
def NS:= @List.take_succ_eq_append_getElem
def NU:= @Nat.zero_add
def OM:= @Go.run_underlying
def PE:= @decide_eq_true_eq
def Pg:= @List.contains_cons
def Ph:= @List.flatMap_append
def Pj:= @List.set_append_right
def Pl:= @Option.some.injEq
def Pq:= @and_true
def RV:= @decide_eq_false
def RX:= @decide_eq_true
def RY:= @decide_eq_true_iff
def Rc:= @Go.Addr.mk.injEq
def Rg:= @Int.add_assoc
def Ri:= @List.any_eq_false
def Rk:= @List.drop_of_length_le
def Rl:= @List.eq_of_mem_replicate
def Rm:= @List.findIdx?_eq_some_iff_getElem
def Rn:= @List.flatMap_cons
def Rp:= @List.getElem?_cons_zero
def Rq:= @List.getElem?_set_ne
def Rr:= @List.getElem?_set_self
def Rs:= @List.getElem_of_mem
def Rt:= @List.mem_cons_self
def Ru:= @List.perm_middle
def Rv:= @List.take_append_drop
def Rx:= @Nat.le_of_lt
def UA:= @List.getElem_cons_drop
def UB:= @List.getLast?_eq_getElem?
def UC:= @List.map_take
def UD:= @List.replicate_succ'
def UE:= @List.size_toArray
def UF:= @List.take_append_of_le_length
def UG:= @List.take_left
def UK:= @Nat.min_eq_left
def UL:= @Nat.mul_le_mul_right
def UM:= @Nat.succ_mul
def Uo:= @Array.toList_extract
def Uq:= @Bool.eq_iff_iff
def Ur:= @ByteArray.data_extract
def Us:= @Int.add_comm
def Ut:= @Int.add_mul_bmod_self_left
def Uu:= @List.dropLast_eq_take
def Uv:= @List.drop_drop
def Uw:= @List.extract_eq_take_drop
def Ux:= @List.findIdx?_append
def Uy:= @List.findIdx?_cons
def Uz:= @List.getElem?_drop
open Go.Proofs.Tryz
theorem Aq{b:Program}{d:FuncId}{args:Array Value}{w:World}{e:Ending}{c:Ending->World->Prop}(a:Calls b d args w fun f h=>f=e/\h=w)(g:c e w):Calls b d args w c:=a.mono fun _ _ a=>by obtain⟨rfl,rfl⟩:=a;exact g
abbrev Ac(a o:Nat):Addr:=⟨a,o,none⟩
abbrev Al(a:Nat):Value:=.pointer (some ⟨a,0,none⟩)
abbrev Aa(a:Int):Value:=.int .i64 a
abbrev Ar(a b c:Nat):Value:=.slice (some ⟨a,0,none⟩) b c
abbrev Aw:Value:=.slice none 0 0
abbrev Af:=ByteArray
inductive TK where
 |over|name|number|sign|keyword
 deriving DecidableEq,Inhabited
structure Az where
 kind:TK
 text:Af
 val:Nat
 pos:Nat
 deriving Inhabited
def Dv(c:Int):Bool:=decide (97<=c/\c<=122)
def CI(c:Int):Bool:=decide (48<=c/\c<=57)
def Ii(c:UInt8):Bool:=Dv c.toNat
def Ge(c:UInt8):Bool:=CI c.toNat
def Fm(l:List UInt8):Nat:=
 match l with
 |[]=>0
 |c::_=>if c=32\/c=10 then 1 else if c=123 then(Lib.indexByte l 125+1).toNat else 0
def B3(l:List UInt8)(p:Nat):Nat:=
 if p<l.length then
  if Fm (l.drop p)=0 then p else B3 l (p+Fm (l.drop p))
 else p
termination_by l.length -p
decreasing_by omega
def Ha:List (List UInt8):=
 [[118,97,114],[112,114,111,99],[102,117,110,99],[98,101,103,105,110],[101,110,100],[105,102],[116,104,101,110],[101,108,115,101],[119,104,105,108,101],[100,111],[119,114,105,116,101],[114,101,97,100],[97,110,100],[111,114],[110,111,116]]
def Il:List UInt8:=[43,45,42,47,37,61,35,60,62,40,41,91,93,44,59,46]
def GW(l:List UInt8):Nat:=(l.takeWhile fun c=>Ii c||Ge c).length
def Dl(l:List UInt8):Nat:=(l.takeWhile Ge).length
def Em(l:List UInt8):Nat:=l.foldl (fun a c=>10*a+(c.toNat -48)) 0
def Hv:Nat:=2147483647
def Cw(l:List UInt8):Except Nat (TK×Nat×Nat):=
 match l with
 |[]=>.error 2
 |c::a=>
  if Ii c then .ok (if Ha.contains (l.take (GW l)) then .keyword else .name,GW l,0)
  else if Ge c then(if Em (l.take (Dl l))>Hv then .error 3 else .ok (.number,Dl l,Em (l.take (Dl l))))
  else if Il.contains c then .ok (.sign,1,0)
  else if c=58/\a.head?=some 61 then .ok (.sign,2,0)
  else .error 2
theorem JN{l:List UInt8}{k:TK}{n v:Nat}(a:Cw l=.ok (k,n,v)):1<=n:=by
 unfold Cw at a;split at a
 ·cases a
 ·rename_i c e;split at a
  ·rename_i d;simp only[Mg,J8] at a;obtain⟨_,a,_⟩:=a;rw[<-a];simp[GW,d]
  ·split at a
   ·rename_i b;split at a
    ·cases a
    ·simp only[Mg,J8] at a;obtain⟨_,a,_⟩:=a;rw[<-a];simp[Dl,b]
   ·split at a
    ·simp only[Mg,J8] at a;omega
    ·split at a
     ·simp only[Mg,J8] at a;omega
     ·cases a
theorem KV(l:List UInt8)(p:Nat):p<=B3 l p:=by
 fun_induction B3 l p<;>omega
def L0(l:List UInt8):Az:=⟨.over,⟨#[]⟩,0,l.length⟩
def FP(l:List UInt8)(b:Nat)(a:TK×Nat×Nat):Az:=⟨a.1,⟨((l.drop b).take a.2.1).toArray⟩,a.2.2,b⟩
def FB(l:List UInt8)(a:Nat):Except (Nat×Nat) (List Az):=
 if a<l.length then
  match Cw (l.drop a) with
  |.error c=>.error (c,a)
  |.ok b=>
   match FB l (B3 l (a+max 1 b.2.1)) with
   |.error d=>.error d
   |.ok e=>.ok (FP l a b::e)
 else .ok [L0 l]
termination_by l.length -a
decreasing_by have:=KV l (a+max 1 b.2.1);omega
def DD(l:List UInt8):Except (Nat×Nat) (List Az):=FB l (B3 l 0)
theorem Jd{l:List UInt8}{a:Nat}(b: ¬a<l.length):FB l a=.ok [L0 l]:=by rw[FB,Ae b]
theorem MZ{l:List UInt8}{a c:Nat}(b:a<l.length)(d:Cw (l.drop a)=.error c):FB l a=.error (c,a):=by rw[FB,Ag b,d]
theorem Nb{l:List UInt8}{b:Nat}{a:TK×Nat×Nat}(e:b<l.length)(d:Cw (l.drop b)=.ok a):
 FB l b=match FB l (B3 l (b+a.2.1)) with|.error c=>.error c|.ok f=>.ok (FP l b a::f):=by
 have g:=JN (k:=a.1) (n:=a.2.1) (v:=a.2.2) d;rw[FB,Ag e,d];have c:max 1 a.2.1=a.2.1:=by omega
 simp only[c]
inductive Ex where
 |nil
 |num (v:Nat)
 |var (n:Af) (p:Nat)
 |elem (n:Af) (p:Nat) (i:Ex)
 |call (n:Af) (p:Nat) (args:List Ex)
 |bin (op:Af) (l r:Ex)
 |un (op:Af) (e:Ex)
inductive St where
 |nil
 |assign (n:Af) (p:Nat) (e:Ex)
 |put (n:Af) (p:Nat) (i e:Ex)
 |proc (n:Af) (p:Nat) (args:List Ex)
 |ite (c:Ex) (t f:St)
 |loop (c:Ex) (b:St)
 |block (l:List St)
 |write (e:Ex)
 |read (n:Af) (p:Nat)
abbrev A8:=Af×Nat
structure Ro where
 name:Af×Nat
 params:List A8
 locals:List A8
 body:List St
inductive Gl where
 |var (n:Af) (p:Nat)
 |arr (n:Af) (p size sizeAt:Nat)
 |proc (r:Ro)
 |func (r:Ro)
structure Pr where
 globals:List Gl
 body:List St
structure PS where
 code:Nat
 at_:Nat
 next:Nat
def bs(l:List UInt8):Af:=⟨l.toArray⟩
section
variable(T:List Az)
def Ad(s:PS):Az:=T.getD s.next default
def Ab(s:PS):PS:={s with next:=s.next+1}
def Aj(a:Af)(s:PS):Bool:=(Ad T s).text.toList==a.toList
def AI(c:Nat)(s:PS):PS:={code:=if s.code=0 then c else s.code,at_:=if s.code=0 then(Ad T s).pos else s.at_,next:=T.length -1}
def Am(a:Af)(s:PS):PS:=if Aj T a s then Ab s else AI T 4 s
def AN(a:TK)(s:PS):Bool:=decide ((Ad T s).kind=a)
def Ap(s:PS):A8×PS:=if AN T .name s then(((Ad T s).text,(Ad T s).pos),Ab s) else((⟨#[]⟩,0),AI T 4 s)
def BV(s:PS):(Nat×Nat)×PS:=if AN T .number s then(((Ad T s).val,(Ad T s).pos),Ab s) else((0,0),AI T 4 s)
def CL(b:List Af)(s:PS):Bool:=b.any fun a=>Aj T a s
abbrev AU:=PS->Ex×PS
def Bi(part:AU)(a:List Af):Nat->Ex->PS->Ex×PS
 |0,l,s=>(l,s)
 |b+1,l,s=>if CL T a s then Bi part a b (.bin (Ad T s).text l (part (Ab s)).1) (part (Ab s)).2 else(l,s)
def BU(part:AU)(a:List Af)(s:PS):Ex×PS:=Bi T part a T.length (part s).1 (part s).2
abbrev Bx:=bs [44]
abbrev AJ:=bs [41]
abbrev Cn:=bs [93]
abbrev Bl:=bs [40]
abbrev BL:=bs [91]
abbrev FA:=bs [45]
abbrev GP:=bs [110,111,116]
abbrev BK:=bs [58,61]
abbrev E3:=bs [101,108,115,101]
abbrev Bu:=bs [116,104,101,110]
abbrev Eh:=bs [100,111]
abbrev AQ:=bs [59]
abbrev By:=bs [101,110,100]
abbrev IF:=bs [105,102]
abbrev IH:=bs [119,104,105,108,101]
abbrev Bc:=bs [98,101,103,105,110]
abbrev II:=bs [119,114,105,116,101]
abbrev IG:=bs [114,101,97,100]
abbrev CJ:=bs [118,97,114]
abbrev F0:=bs [112,114,111,99]
abbrev GO:=bs [102,117,110,99]
abbrev DR:=bs [46]
abbrev Tb:=bs [61]
abbrev S5:=bs [35]
abbrev Ta:=bs [60]
abbrev Tc:=bs [62]
abbrev S7:=bs [42]
abbrev S9:=bs [47]
abbrev S6:=bs [37]
abbrev S8:=bs [43]
abbrev Eg:=bs [97,110,100]
abbrev Ei:=bs [111,114]
def C5:List Af:=[Tb,S5,Ta,Tc]
def Db:List Af:=[S7,S9,S6]
def C9:List Af:=[S8,FA]
def MB:List Af:=[Eg]
def No:List Af:=[Ei]
def DM(a:AU)(s:PS):Ex×PS:=
 if CL T C5 (a s).2 then(.bin (Ad T (a s).2).text (a s).1 (a (Ab (a s).2)).1,(a (Ab (a s).2)).2) else a s
def Jr(a:AU):PS->Ex×PS:=BU T a Db
def Fq(a:AU):PS->Ex×PS:=BU T (Jr T a) C9
def Hi(a:AU):PS->Ex×PS:=DM T (Fq T a)
def I5(a:AU):PS->Ex×PS:=BU T (Hi T a) MB
def EA(a:AU):PS->Ex×PS:=BU T (I5 T a) No
def Bj(b:AU):Nat->List Ex->PS->List Ex×PS
 |0,a,s=>(a,s)
 |c+1,a,s=>if Aj T Bx s then Bj b c (a++[(b (Ab s)).1]) (b (Ab s)).2 else(a,s)
def Ba(a:AU)(s:PS):List Ex×PS:=
 if Aj T AJ s then([],Ab s)
 else((Bj T a T.length [(a s).1] (a s).2).1,Am T AJ (Bj T a T.length [(a s).1] (a s).2).2)
def Cg(a:AU)(s:PS):Ex×PS:=((a s).1,Am T Cn (a s).2)
def FQ(a:AU)(s:PS):Ex×PS:=
 if Aj T Bl (Ap T s).2 then(.call (Ap T s).1.1 (Ap T s).1.2 (Ba T a (Ab (Ap T s).2)).1,(Ba T a (Ab (Ap T s).2)).2)
 else if Aj T BL (Ap T s).2 then(.elem (Ap T s).1.1 (Ap T s).1.2 (Cg T a (Ab (Ap T s).2)).1,(Cg T a (Ab (Ap T s).2)).2)
 else(.var (Ap T s).1.1 (Ap T s).1.2,(Ap T s).2)
def Da:Nat->PS->Ex×PS
 |0,s=>(.nil,AI T 5 s)
 |a+1,s=>
  if AN T .number s then(.num (BV T s).1.1,(BV T s).2)
  else if AN T .name s then FQ T (EA T (Da a)) s
  else if Aj T Bl s then((EA T (Da a) (Ab s)).1,Am T AJ (EA T (Da a) (Ab s)).2)
  else if Aj T FA s then(.un FA (Da a (Ab s)).1,(Da a (Ab s)).2)
  else if Aj T GP s then(.un GP (Da a (Ab s)).1,(Da a (Ab s)).2)
  else(.nil,AI T 4 s)
def EQ(a:Nat):PS->Ex×PS:=EA T (Da T a)
def FR(a:AU)(s:PS):St×PS:=
 if Aj T Bl (Ap T s).2 then(.proc (Ap T s).1.1 (Ap T s).1.2 (Ba T a (Ab (Ap T s).2)).1,(Ba T a (Ab (Ap T s).2)).2)
 else if Aj T BL (Ap T s).2 then
  (.put (Ap T s).1.1 (Ap T s).1.2 (Cg T a (Ab (Ap T s).2)).1 (a (Am T BK (Cg T a (Ab (Ap T s).2)).2)).1,(a (Am T BK (Cg T a (Ab (Ap T s).2)).2)).2)
 else(.assign (Ap T s).1.1 (Ap T s).1.2 (a (Am T BK (Ap T s).2)).1,(a (Am T BK (Ap T s).2)).2)
def Dk(a:AU)(b:PS->St×PS)(s:PS):St×PS:=
 if Aj T E3 (b (Am T Bu (a s).2)).2 then
  (.ite (a s).1 (b (Am T Bu (a s).2)).1 (b (Ab (b (Am T Bu (a s).2)).2)).1,(b (Ab (b (Am T Bu (a s).2)).2)).2)
 else(.ite (a s).1 (b (Am T Bu (a s).2)).1 .nil,(b (Am T Bu (a s).2)).2)
def F6(a:AU)(b:PS->St×PS)(s:PS):St×PS:=
 (.loop (a s).1 (b (Am T Eh (a s).2)).1,(b (Am T Eh (a s).2)).2)
def A7(a:PS->St×PS)(s:PS):List St×PS:=
 if Aj T AQ s||Aj T By s then([],s) else([(a s).1],(a s).2)
def BQ(a:PS->St×PS):Nat->List St->PS->List St×PS
 |0,b,s=>(b,s)
 |c+1,b,s=>if Aj T AQ (A7 T a s).2 then BQ a c (b++(A7 T a s).1) (Ab (A7 T a s).2) else(b++(A7 T a s).1,(A7 T a s).2)
def AK(a:PS->St×PS)(s:PS):List St×PS:=BQ T a T.length [] s
def CV:Nat->PS->St×PS
 |0,s=>(.nil,AI T 5 s)
 |a+1,s=>
  if AN T .name s then FR T (EQ T a) s
  else if Aj T IF s then Dk T (EQ T a) (CV a) (Ab s)
  else if Aj T IH s then F6 T (EQ T a) (CV a) (Ab s)
  else if Aj T Bc s then(.block (AK T (CV a) (Ab s)).1,Am T By (AK T (CV a) (Ab s)).2)
  else if Aj T II s then(.write (EQ T a (Ab s)).1,(EQ T a (Ab s)).2)
  else if Aj T IG s then(.read (Ap T (Ab s)).1.1 (Ap T (Ab s)).1.2,(Ap T (Ab s)).2)
  else(.nil,AI T 4 s)
def BT(s:PS):List St×PS:=
 ((AK T (CV T 14) (Am T Bc s)).1,Am T By (AK T (CV T 14) (Am T Bc s)).2)
def AE(s:PS):Gl×PS:=
 if Aj T BL (Ap T s).2 then
  (.arr (Ap T s).1.1 (Ap T s).1.2 (BV T (Ab (Ap T s).2)).1.1 (BV T (Ab (Ap T s).2)).1.2,Am T Cn (BV T (Ab (Ap T s).2)).2)
 else(.var (Ap T s).1.1 (Ap T s).1.2,(Ap T s).2)
def Bw:Nat->List Gl->PS->List Gl×PS
 |0,a,s=>(a,s)
 |b+1,a,s=>if Aj T Bx s then Bw b (a++[(AE T (Ab s)).1]) (AE T (Ab s)).2 else(a,s)
def BP(s:PS):List Gl×PS:=
 ((Bw T T.length [(AE T s).1] (AE T s).2).1,Am T AQ (Bw T T.length [(AE T s).1] (AE T s).2).2)
def Bp:Nat->List A8->PS->List A8×PS
 |0,a,s=>(a,s)
 |b+1,a,s=>if Aj T Bx s then Bp b (a++[(Ap T (Ab s)).1]) (Ap T (Ab s)).2 else(a,s)
def Bf(s:PS):List A8×PS:=Bp T T.length [(Ap T s).1] (Ap T s).2
def Cz(s:PS):List A8×PS:=if Aj T AJ s then([],s) else Bf T s
def B5:Nat->List A8->PS->List A8×PS
 |0,a,s=>(a,s)
 |b+1,a,s=>if Aj T CJ s then B5 b (a++(Bf T (Ab s)).1) (Am T AQ (Bf T (Ab s)).2) else(a,s)
def ET(s:PS):List A8×PS:=Cz T (Am T Bl (Ap T s).2)
def Cx(s:PS):List A8×PS:=B5 T T.length [] (Am T AJ (ET T s).2)
def AZ(s:PS):Ro×PS:=
 (⟨(Ap T s).1,(ET T s).1,(Cx T s).1,(BT T (Cx T s).2).1⟩,Am T AQ (BT T (Cx T s).2).2)
def BC:Nat->List Gl->PS->List Gl×PS
 |0,a,s=>(a,s)
 |b+1,a,s=>
  if Aj T CJ s then BC b (a++(BP T (Ab s)).1) (BP T (Ab s)).2
  else if Aj T F0 s then BC b (a++[.proc (AZ T (Ab s)).1]) (AZ T (Ab s)).2
  else if Aj T GO s then BC b (a++[.func (AZ T (Ab s)).1]) (AZ T (Ab s)).2
  else(a,s)
def BJ(s:PS):List Gl×PS:=BC T T.length [] s
def Dm(s:PS):PS:=if AN T .over s then s else AI T 4 s
def Bd(s:PS):Pr×PS:=
 (⟨(BJ T s).1,(BT T (BJ T s).2).1⟩,Dm T (Am T DR (BT T (BJ T s).2).2))
end
structure AR(T:List Az):Prop where
 pos:0<T.length
 last: ∀t,T[T.length -1]? =some t->t.kind=.over/\t.text.toList=[]
def An(T:List Az)(s:PS):Prop:=s.next<T.length
def AM(T:List Az){b:Type}(a:PS->b×PS):Prop:= ∀s,An T s->An T (a s).2/\s.next<=(a s).2.next
section
variable{T:List Az}(O:AR T)
include O
theorem MG(s:PS)(b:s.next=T.length -1):(Ad T s).kind=.over/\(Ad T s).text.toList=[]:=by
 have d:=O.pos;have a:T[T.length -1]? =some (T[T.length -1]'(by omega)):=Bb (by omega);have:=O.last _ a;have c:Ad T s=T[T.length -1]'(by omega):=by unfold Ad;rw[b,Dg,a];rfl
 rw[c];exact this
theorem AD{f:Af}{s:PS}(hg:An T s)(a:Aj T f s=true)(c:f.toList≠[]):An T (Ab s):=by
 have d:=O.pos;unfold An at*;by_cases b:s.next=T.length -1
 ·have:=(MG O s b).2;unfold Aj at a;rw[this] at a;simp at a;exact absurd a.symm (by simpa using c)
 ·show s.next+1<T.length;omega
theorem EZ{b:TK}{s:PS}(hg:An T s)(a:AN T b s=true)(d:b≠ .over):An T (Ab s):=by
 have e:=O.pos;unfold An at*;by_cases c:s.next=T.length -1
 ·have:=(MG O s c).1;unfold AN at a;simp at a;rw[this] at a;exact absurd a.symm d
 ·show s.next+1<T.length;omega
theorem Gh(c:Nat)(s:PS):An T (AI T c s):=by have a:=O.pos;show T.length -1<T.length;omega
omit O in
theorem FO(c:Nat){s:PS}(hg:An T s):s.next<=(AI T c s).next:=by unfold An at hg;show s.next<=T.length -1;omega
theorem Ch{f:Af}(b:f.toList≠[]){s:PS}(hg:An T s):An T (Am T f s)/\s.next<=(Am T f s).next:=by
 unfold Am;split
 ·rename_i a;exact⟨AD O hg a b,Ic _⟩
 ·exact⟨Gh O 4 s,FO 4 hg⟩
theorem Gn:AM T (Ap T):=by
 intro s hg;unfold Ap;split
 ·rename_i a;exact⟨EZ O hg a (by decide),Ic _⟩
 ·exact⟨Gh O 4 s,FO 4 hg⟩
theorem OC:AM T (BV T):=by
 intro s hg;unfold BV;split
 ·rename_i a;exact⟨EZ O hg a (by decide),Ic _⟩
 ·exact⟨Gh O 4 s,FO 4 hg⟩
end
def BW(a:Int):Int:=Int.bmod a 4294967296
def Cv(a:Bool):Int:=if a then 1 else 0
def BE(op:Af)(l:List UInt8):Bool:=op.toList==l
def GH(op:Af)(b a:Int):Option Int:=
 if BE op [43] then some (BW (b+a))
 else if BE op [45] then some (BW (b -a))
 else if BE op [42] then some (BW (b*a))
 else if BE op [47] then(if a=0 then none else some (BW (b.tdiv a)))
 else if BE op [37] then(if a=0 then none else some (BW (b.tmod a)))
 else if BE op [61] then some (Cv (b==a))
 else if BE op [35] then some (Cv (b !=a))
 else if BE op [60] then some (Cv (decide (b<a)))
 else some (Cv (decide (b>a)))
structure RC where
 name:Af
 vals:List Int
 deriving Inhabited
structure RS where
 glob:List RC
 here:List (Af×Int)
 input:List Int
 out:List Int
 used:Nat
 stop:Option Nat
def RS.fail(s:RS)(c:Nat):RS:={s with stop:=some c}
def RS.unit(B:Nat)(s:RS):RS:=if B<=s.used then s.fail 0 else{s with used:=s.used+1}
def AS(a b:Af):Bool:=a.toList==b.toList
def JK(l:List (Af×Int))(a:Af):Option Nat:=l.findIdx? fun b=>AS b.1 a
def JH(l:List RC)(a:Af):Option Nat:=l.findIdx? fun b=>AS b.name a
def RS.get(s:RS)(b:Af):Int:=
 match JK s.here b with
 |some a=>(s.here.getD a default).2
 |none=>match JH s.glob b with
  |some a=>(s.glob.getD a default).vals.getD 0 0
  |none=>0
def RS.set(s:RS)(b:Af)(c:Int):RS:=
 match JK s.here b with
 |some a=>{s with here:=s.here.set a ((s.here.getD a default).1,c)}
 |none=>match JH s.glob b with
  |some a=>{s with glob:=s.glob.set a ⟨(s.glob.getD a default).name,(s.glob.getD a default).vals.set 0 c⟩}
  |none=>s
def RS.row(s:RS)(b:Af):List Int:=
 match JH s.glob b with
 |some a=>(s.glob.getD a default).vals
 |none=>[]
def RS.put(s:RS)(b:Af)(d c:Int):RS:=
 match JH s.glob b with
 |some a=>{s with glob:=s.glob.set a ⟨(s.glob.getD a default).name,(s.glob.getD a default).vals.set d.toNat c⟩}
 |none=>s
def G8(l:List Int)(a:Int):Bool:=decide (0<=a/\a<l.length)
section
abbrev Dr:=Bool->Af->List Int->RS->Int×RS
variable(B:Nat)(call:Dr)
mutual
def AB:Ex->RS->Int×RS
 |.nil,s=>(0,s)
 |.num e,s=>(e,s)
 |.var d _,s=>(s.get d,s)
 |.elem d _ c,s=>
  if(AB c s).2.stop.isSome then(0,(AB c s).2)
  else if G8 ((AB c s).2.row d) (AB c s).1 then(((AB c s).2.row d).getD (AB c s).1.toNat 0,(AB c s).2)
  else(0,(AB c s).2.fail 9)
 |.call d _ args,s=>
  if(Cd args s).2.stop.isSome then(0,(Cd args s).2) else call true d (Cd args s).1 (Cd args s).2
 |.bin op l a,s=>
  if(AB l s).2.stop.isSome then(0,(AB l s).2)
  else if BE op [97,110,100] then
   (if(AB l s).1=0 then(0,(AB l s).2) else(Cv ((AB a (AB l s).2).1 !=0),(AB a (AB l s).2).2))
  else if BE op [111,114] then
   (if(AB l s).1≠0 then(1,(AB l s).2) else(Cv ((AB a (AB l s).2).1 !=0),(AB a (AB l s).2).2))
  else if(AB a (AB l s).2).2.stop.isSome then(0,(AB a (AB l s).2).2)
  else match GH op (AB l s).1 (AB a (AB l s).2).1 with
   |some e=>(e,(AB a (AB l s).2).2)
   |none=>(0,(AB a (AB l s).2).2.fail 10)
 |.un op b,s=>(if BE op [45] then BW (-(AB b s).1) else Cv ((AB b s).1==0),(AB b s).2)
def Cd:List Ex->RS->List Int×RS
 |[],s=>([],s)
 |b::a,s=>
  if(AB b s).2.stop.isSome then([],(AB b s).2)
  else((AB b s).1::(Cd a (AB b s).2).1,(Cd a (AB b s).2).2)
end
def JP(test:RS->Int×RS)(a:RS->RS):Nat->RS->RS
 |0,s=>s
 |b+1,s=>
  if(s.unit B).stop.isSome then s.unit B
  else if(test (s.unit B)).2.stop.isSome then(test (s.unit B)).2
  else if(test (s.unit B)).1=0 then(test (s.unit B)).2
  else if(a (test (s.unit B)).2).stop.isSome then a (test (s.unit B)).2
  else JP test a b (a (test (s.unit B)).2)
mutual
def Cr:St->RS->RS
 |.nil,s=>s
 |.assign d _ a,s=>
  if(s.unit B).stop.isSome then s.unit B
  else if(AB call a (s.unit B)).2.stop.isSome then(AB call a (s.unit B)).2
  else(AB call a (s.unit B)).2.set d (AB call a (s.unit B)).1
 |.put d _ b a,s=>
  if(s.unit B).stop.isSome then s.unit B
  else if(AB call b (s.unit B)).2.stop.isSome then(AB call b (s.unit B)).2
  else if G8 ((AB call b (s.unit B)).2.row d) (AB call b (s.unit B)).1 then
   (if(AB call a (AB call b (s.unit B)).2).2.stop.isSome then(AB call a (AB call b (s.unit B)).2).2
    else(AB call a (AB call b (s.unit B)).2).2.put d (AB call b (s.unit B)).1 (AB call a (AB call b (s.unit B)).2).1)
  else(AB call b (s.unit B)).2.fail 9
 |.proc d _ args,s=>
  if(s.unit B).stop.isSome then s.unit B
  else if(Cd call args (s.unit B)).2.stop.isSome then(Cd call args (s.unit B)).2
  else(call false d (Cd call args (s.unit B)).1 (Cd call args (s.unit B)).2).2
 |.ite c i h,s=>
  if(s.unit B).stop.isSome then s.unit B
  else if(AB call c (s.unit B)).2.stop.isSome then(AB call c (s.unit B)).2
  else if(AB call c (s.unit B)).1≠0 then Cr i (AB call c (s.unit B)).2
  else Cr h (AB call c (s.unit B)).2
 |.loop c g,s=>JP B (AB call c) (Cr g) (B+2) s
 |.block l,s=>Dp l s
 |.write a,s=>
  if(s.unit B).stop.isSome then s.unit B
  else if(AB call a (s.unit B)).2.stop.isSome then(AB call a (s.unit B)).2
  else if 60<=(AB call a (s.unit B)).2.out.length then(AB call a (s.unit B)).2.fail 12
  else{(AB call a (s.unit B)).2 with out:=(AB call a (s.unit B)).2.out++[(AB call a (s.unit B)).1]}
 |.read d _,s=>
  if(s.unit B).stop.isSome then s.unit B
  else match(s.unit B).input with
   |[]=>(s.unit B).fail 11
   |j::e=>({s.unit B with input:=e}).set d j
def Dp:List St->RS->RS
 |[],s=>s
 |f::e,s=>if(Cr f s).stop.isSome then Cr f s else Dp e (Cr f s)
end
end
def DL:List Gl->Af->Option (Bool×Ro)
 |[],_=>none
 |.proc b::l,a=>if AS b.name.1 a then some (false,b) else DL l a
 |.func b::l,a=>if AS b.name.1 a then some (true,b) else DL l a
 |_::l,a=>DL l a
def Ro.cells(a:Ro):List Af:=(a.params++a.locals).map (·.1)
def Ro.own(b:Bool)(a:Ro):Bool:=b&& !(a.cells.any fun c=>AS c a.name.1)
def Ro.enter(c:Bool)(a:Ro)(d:List Int):List (Af×Int):=
 (a.cells.zipIdx.map fun b=>(b.1,d.getD b.2 0))++if a.own c then[(a.name.1,0)] else[]
def Ro.result(b:Bool)(a:Ro)(c:List (Af×Int)):Int:=if a.own b then(c.getD a.cells.length default).2 else 0
def Ef(B:Nat)(c:List Gl):Nat->Dr
 |0,_,_,_,s=>(0,s.fail 13)
 |d+1,a,f,e,s=>
  if a&&(s.unit B).stop.isSome then(0,s.unit B)
  else match DL c f with
   |none=>(0,s)
   |some (_,b)=>
    (b.result a (Dp B (Ef B c d) b.body {(if a then s.unit B else s) with here:=b.enter a e}).here,
     {Dp B (Ef B c d) b.body {(if a then s.unit B else s) with here:=b.enter a e} with here:=s.here})
def Ff:Gl->RC
 |.var a _=>⟨a,[0]⟩
 |.arr a _ size _=>⟨a,List.replicate size 0⟩
 |.proc b=>⟨b.name.1,[]⟩
 |.func b=>⟨b.name.1,[]⟩
def QQ(p:Pr)(input:List Int):RS:=⟨p.globals.map Ff,[],input,[],0,none⟩
def Ld(p:Pr)(input:List Int)(B:Nat):RS:=Dp B (Ef B p.globals 30) p.body (QQ p input)
def El(p:Pr)(input:List Int)(a:Nat):Nat×List Int×Nat:=
 ((match(Ld p input a).stop with|none=>0|some 0=>8|some c=>c),(Ld p input a).out,(Ld p input a).used)
structure CE where
 g:Af->Nat×Nat
 l:Af->Option Nat
 n:Nat
 res:Af
def CE.get(E:CE)(a:Af):List Nat:=match E.l a with|some b=>[5,b]|none=>[3,(E.g a).1]
def CE.set(E:CE)(a:Af):List Nat:=match E.l a with|some b=>[6,b]|none=>if AS a E.res then[6,E.n] else[4,(E.g a).1]
def Ij(op:Af):Nat:=
 if BE op [43] then 10 else if BE op [45] then 11 else if BE op [42] then 12 else if BE op [47] then 13 else if BE op [37] then 14
 else if BE op [61] then 15 else if BE op [35] then 16 else if BE op [60] then 17 else 18
def Jt(op:Af):Nat:=if BE op [45] then 19 else 20
section
variable(E:CE)
mutual
def Ak:Nat->Ex->List Nat
 |_,.nil=>[]
 |_,.num e=>[2,e]
 |_,.var b _=>E.get b
 |p,.elem b _ d=>Ak p d++[7,(E.g b).1,(E.g b).2]++[8]
 |p,.call b _ args=>CQ p args++[24,(E.g b).1,args.length]
 |p,.bin op l a=>
  if BE op [97,110,100] then
   Ak p l++[23,p+(Ak p l).length+2+(Ak (p+(Ak p l).length+2) a).length+3]++Ak (p+(Ak p l).length+2) a++[21]
    ++[22,p+(Ak p l).length+2+(Ak (p+(Ak p l).length+2) a).length+5]++[2,0]
  else if BE op [111,114] then
   Ak p l++[23,p+(Ak p l).length+6]++[2,1]++[22,p+(Ak p l).length+6+(Ak (p+(Ak p l).length+6) a).length+1]++Ak (p+(Ak p l).length+6) a++[21]
  else Ak p l++Ak (p+(Ak p l).length) a++[Ij op]
 |p,.un op c=>Ak p c++[Jt op]
def CQ:Nat->List Ex->List Nat
 |_,[]=>[]
 |p,c::a=>Ak p c++CQ (p+(Ak p c).length) a
end
def St.isNil:St->Bool
 |.nil=>true
 |_=>false
mutual
def AH:Nat->St->List Nat
 |_,.nil=>[]
 |p,.assign a _ d=>[1]++Ak E (p+1) d++E.set a
 |p,.put a _ g d=>[1]++(Ak E (p+1) g++[7,(E.g a).1,(E.g a).2])++Ak E (p+1+(Ak E (p+1) g).length+3) d++[9]
 |p,.proc a _ args=>[1]++(CQ E (p+1) args++[24,(E.g a).1,args.length])
 |p,.ite c b e=>
  if e.isNil then
   [1]++(Ak E (p+1) c++[23,p+1+(Ak E (p+1) c).length+2+(AH (p+1+(Ak E (p+1) c).length+2) b).length]++AH (p+1+(Ak E (p+1) c).length+2) b)
  else
   [1]++(Ak E (p+1) c++[23,p+1+(Ak E (p+1) c).length+2+(AH (p+1+(Ak E (p+1) c).length+2) b).length+2]++AH (p+1+(Ak E (p+1) c).length+2) b
     ++[22,p+1+(Ak E (p+1) c).length+2+(AH (p+1+(Ak E (p+1) c).length+2) b).length+2+(AH (p+1+(Ak E (p+1) c).length+2+(AH (p+1+(Ak E (p+1) c).length+2) b).length+2) e).length]
     ++AH (p+1+(Ak E (p+1) c).length+2+(AH (p+1+(Ak E (p+1) c).length+2) b).length+2) e)
 |p,.loop c f=>
  [1]++(Ak E (p+1) c++[23,p+1+(Ak E (p+1) c).length+2+(AH (p+1+(Ak E (p+1) c).length+2) f).length+2]++AH (p+1+(Ak E (p+1) c).length+2) f++[22,p])
 |p,.block l=>Bt p l
 |p,.write d=>[1]++Ak E (p+1) d++[28]
 |_,.read a _=>[1]++[29]++E.set a
def Bt:Nat->List St->List Nat
 |_,[]=>[]
 |p,s::h=>AH p s++Bt (p+(AH p s).length) h
end
end
structure CG where
 words:List Nat
 places:Nat
 g:Af->Nat×Nat
def B9(b:Af->Nat×Nat)(c:Af)(d:Nat×Nat):Af->Nat×Nat:=fun a=>if AS c a then d else b a
def CT(b:Bool)(c:Af->Nat×Nat)(a:Ro):CE:=⟨c,fun d=>a.cells.findIdx? fun e=>AS e d,a.cells.length,if b then a.name.1 else⟨#[]⟩⟩
def Dj(c:CG):Gl->CG
 |.var b _=>⟨c.words,c.places+1,B9 c.g b (c.places,1)⟩
 |.arr b _ size _=>⟨c.words,c.places+size,B9 c.g b (c.places,size)⟩
 |.proc a=>⟨c.words++[25,a.locals.length]++Bt (CT false (B9 c.g a.name.1 (c.words.length,0)) a) (c.words.length+2) a.body++[26],c.places,B9 c.g a.name.1 (c.words.length,0)⟩
 |.func a=>⟨c.words++[1]++[25,a.locals.length+1]++Bt (CT true (B9 c.g a.name.1 (c.words.length,0)) a) (c.words.length+3) a.body++[27,a.cells.length],c.places,B9 c.g a.name.1 (c.words.length,0)⟩
def FX(c:CG):List Gl->CG
 |[]=>c
 |a::l=>FX (Dj c a) l
def Ig:CG:=⟨[],0,fun _=>(0,0)⟩
def Fc(c:CG):CE:=⟨c.g,fun _=>none,0,⟨#[]⟩⟩
def BI(p:Pr):List Nat×Nat×Nat:=
 ((FX Ig p.globals).words++Bt (Fc (FX Ig p.globals)) (FX Ig p.globals).words.length p.body++[0],(FX Ig p.globals).words.length,(FX Ig p.globals).places)
structure MS where
 pc:Nat
 places:List Int
 stack:List Int
 base:Nat
 calls:List (Nat×Nat)
 input:List Int
 out:List Int
 used:Nat
 over:Option Nat
def MS.end_(a:MS)(c:Nat):MS:={a with over:=some c}
def MS.push(a:MS)(b:Int):MS:={a with stack:=a.stack++[b]}
def K0(op:Nat)(b a:Int):Option Int:=
 if op=10 then some (BW (b+a)) else if op=11 then some (BW (b -a)) else if op=12 then some (BW (b*a))
 else if op=15 then some (Cv (b==a)) else if op=16 then some (Cv (b !=a)) else if op=17 then some (Cv (decide (b<a))) else if op=18 then some (Cv (decide (b>a)))
 else if a=0 then none else if op=13 then some (BW (b.tdiv a)) else some (BW (b.tmod a))
section
variable(W:List Nat)(B:Nat)
def CP(a:MS):Option MS:=
 match W[a.pc]? with
 |none=>none
 |some 0=>some (({a with pc:=a.pc+1}:MS).end_ 0)
 |some 1=>some (if a.used=B then({a with pc:=a.pc+1}:MS).end_ 8 else{a with pc:=a.pc+1,used:=a.used+1})
 |some 2=>(W[a.pc+1]?).map fun(b:Nat)=>({a with pc:=a.pc+2}:MS).push (BW (b:Int))
 |some 3=>(W[a.pc+1]?).bind fun c=>(a.places[c]?).map fun b=>({a with pc:=a.pc+2}:MS).push b
 |some 4=>(W[a.pc+1]?).bind fun c=>(a.stack.getLast?).bind fun b=>if c<a.places.length then some {a with pc:=a.pc+2,stack:=a.stack.dropLast,places:=a.places.set c b} else none
 |some 5=>(W[a.pc+1]?).bind fun c=>(a.stack[a.base+c]?).map fun b=>({a with pc:=a.pc+2}:MS).push b
 |some 6=>(W[a.pc+1]?).bind fun c=>(a.stack.getLast?).bind fun b=>if a.base+c<a.stack.dropLast.length then some {a with pc:=a.pc+2,stack:=a.stack.dropLast.set (a.base+c) b} else none
 |some 7=>(W[a.pc+1]?).bind fun c=>(W[a.pc+2]?).bind fun e=>(a.stack.getLast?).map fun d=>
   if d<0\/(e:Int)<=d then({a with pc:=a.pc+3,stack:=a.stack.dropLast}:MS).end_ 9 else{a with pc:=a.pc+3,stack:=a.stack.dropLast++[BW (c+d)]}
 |some 8=>(a.stack.getLast?).bind fun d=>if 0<=d then(a.places[d.toNat]?).map fun b=>{a with pc:=a.pc+1,stack:=a.stack.dropLast++[b]} else none
 |some 9=>(a.stack.getLast?).bind fun b=>(a.stack.dropLast.getLast?).bind fun d=>
   if 0<=d/\d<a.places.length then some {a with pc:=a.pc+1,stack:=a.stack.dropLast.dropLast,places:=a.places.set d.toNat b} else none
 |some 19=>(a.stack.getLast?).map fun b=>{a with pc:=a.pc+1,stack:=a.stack.dropLast++[BW (-b)]}
 |some 20=>(a.stack.getLast?).map fun(b:Int)=>{a with pc:=a.pc+1,stack:=a.stack.dropLast++[Cv (b==0)]}
 |some 21=>(a.stack.getLast?).map fun(b:Int)=>{a with pc:=a.pc+1,stack:=a.stack.dropLast++[Cv (b !=0)]}
 |some 22=>(W[a.pc+1]?).map fun c=>{a with pc:=c}
 |some 23=>(W[a.pc+1]?).bind fun c=>(a.stack.getLast?).map fun b=>if b=0 then{a with pc:=c,stack:=a.stack.dropLast} else{a with pc:=a.pc+2,stack:=a.stack.dropLast}
 |some 24=>(W[a.pc+1]?).bind fun c=>(W[a.pc+2]?).bind fun e=>
   if a.calls.length=30 then some (({a with pc:=a.pc+3}:MS).end_ 13)
   else if e<=a.stack.length then some {a with pc:=c,calls:=a.calls++[(a.pc+3,a.base)],base:=a.stack.length -e} else none
 |some 25=>(W[a.pc+1]?).map fun e=>{a with pc:=a.pc+2,stack:=a.stack++List.replicate e 0}
 |some 26=>(a.calls.getLast?).bind fun f=>if a.base<=a.stack.length then some {a with pc:=f.1,base:=f.2,calls:=a.calls.dropLast,stack:=a.stack.take a.base} else none
 |some 27=>(W[a.pc+1]?).bind fun c=>(a.stack[a.base+c]?).bind fun b=>(a.calls.getLast?).bind fun f=>
   if a.base<=a.stack.length then some {a with pc:=f.1,base:=f.2,calls:=a.calls.dropLast,stack:=a.stack.take a.base++[b]} else none
 |some 28=>(a.stack.getLast?).map fun b=>
   if a.out.length=60 then({a with pc:=a.pc+1,stack:=a.stack.dropLast}:MS).end_ 12 else{a with pc:=a.pc+1,stack:=a.stack.dropLast,out:=a.out++[b]}
 |some 29=>some (match a.input with
   |[]=>({a with pc:=a.pc+1}:MS).end_ 11
   |b::g=>{a with pc:=a.pc+1,stack:=a.stack++[b],input:=g})
 |some op=>if 10<=op/\op<=18 then
   (a.stack.getLast?).bind fun h=>(a.stack.dropLast.getLast?).map fun d=>
    match K0 op d h with
    |some b=>{a with pc:=a.pc+1,stack:=a.stack.dropLast.dropLast++[b]}
    |none=>({a with pc:=a.pc+1,stack:=a.stack.dropLast.dropLast}:MS).end_ 10
  else none
inductive Cc:MS->MS->Prop
 |refl (m:MS):Cc m m
 |step {m m1 m2:MS}:m.over=none->m.stack.length<=m.pc+(m.calls.length+1)*10000->CP W B m=some m1->Cc m1 m2->Cc m m2
theorem Cc.trans{W:List Nat}{B:Nat}{a b c:MS}(e:Cc W B a b)(d:Cc W B b c):Cc W B a c:=by
 induction e with
 |refl=>exact d
 |step f h g _ i=>exact .step f h g (i d)
theorem Cc.one{W:List Nat}{B:Nat}{a b:MS}(d:a.over=none)(e:a.stack.length<=a.pc+(a.calls.length+1)*10000)(c:CP W B a=some b):Cc W B a b:=.step d e c (.refl _)
end
def m0(c:List Nat×Nat×Nat)(input:List Int):MS:=⟨c.2.1,List.replicate c.2.2 0,[],0,[],input,[],0,none⟩
open Go.RowKit
abbrev Ah(c:FuncId)(b:Array Value)(w:World)(a:Ending->World->Prop):Prop:=Calls prog c b w a
theorem L9(c:Int)(w:World):
 Ah 137 #[.int .u8 c] w fun e f=>e=.returned (.bool (Dv c))/\f=w:=by
 by_cases b:97<=c
 ·by_cases d:c<=122
  ·have a:Dv c=true:=by simp[Dv,b,d]
   rw[a];clear a;go_enter func137,ntmps137;go_wp2;go_ret;exact⟨rfl,rfl⟩
  ·have a:Dv c=false:=by simp[Dv,d]
   rw[a];clear a;go_enter func137,ntmps137;go_wp2;go_ret;exact⟨rfl,rfl⟩
 ·have a:Dv c=false:=by simp[Dv,b]
  rw[a];clear a;go_enter func137,ntmps137;go_wp2;go_ret;exact⟨rfl,rfl⟩
theorem Jp(c:Int)(w:World):
 Ah 139 #[.int .u8 c] w fun e f=>e=.returned (.bool (CI c))/\f=w:=by
 by_cases b:48<=c
 ·by_cases d:c<=57
  ·have a:CI c=true:=by simp[CI,b,d]
   rw[a];clear a;go_enter func139,ntmps139;go_wp2;go_ret;exact⟨rfl,rfl⟩
  ·have a:CI c=false:=by simp[CI,d]
   rw[a];clear a;go_enter func139,ntmps139;go_wp2;go_ret;exact⟨rfl,rfl⟩
 ·have a:CI c=false:=by simp[CI,b]
  rw[a];clear a;go_enter func139,ntmps139;go_wp2;go_ret;exact⟨rfl,rfl⟩
theorem AhC(s:Af)(c:Int)(w:World):
 Ah 185 #[.string s,.int .u8 c] w fun a b=>a=.returned (Aa (Lib.indexByte s.data.toList c.toNat.toUInt8))/\b=w:=by
 go_enter func185,ntmps185;go_wp2;rw[run_callFunc_extern func202 (by kernel_rfl) (by kernel_rfl) (by kernel_rfl) (e:=Extern.BytealgIndexByte.indexByte) (by kernel_rfl),Lib.run_indexByteString];simp only[Result.andThen];rw[Oper.upon_value];go_wp2;go_ret;exact⟨rfl,rfl⟩
theorem Adf(s:Af)(c:Int)(w:World):
 Ah 162 #[.string s,.int .u8 c] w fun a b=>a=.returned (Aa (Lib.indexByte s.data.toList c.toNat.toUInt8))/\b=w:=by
 go_enter func162,ntmps162;go_wp2_with(go_at_call 185;refine(AhC _ _ _).mono ?_;rintro a b⟨rfl,rfl⟩);go_ret;exact⟨rfl,rfl⟩
theorem L7{c:IntKind}{a b:Int}(d:a=b):Ending.returned (.int c a)=.returned (.int c b):=by rw[d]
theorem SR: ∀(l:List UInt8)(c:UInt8),Lib.indexByte l c<l.length\/l=[]/\Lib.indexByte l c= -1
 |[],_=>Or.inr ⟨rfl,rfl⟩
 |b::l,c=>by
  left;have:=SR l c;simp only[Lib.indexByte,Bg];split
  ·omega
  ·split<;>rcases this with a|⟨_,a⟩<;>omega
theorem Fo(s:Af):s.data.toList.length=s.size:=rfl
theorem Wq(s:Af)(e:0<s.size): ∃a,s.data.toList=s[0]::a:=by
 have d:0<s.data.toList.length:=e
 match b:s.data.toList,d with
 |c::a,_=>
  refine⟨a,?_⟩;have:s[0]=s.data.toList[0]'(by rw[b];simp):=rfl;rw[this];simp[b]
theorem N7(c a:UInt8):c=a↔c.toNat=a.toNat:=UInt8.toNat_inj.symm
theorem AcN(s:Af)(b:0<s.size):Fm s.data.toList=if s[0].toNat=32\/s[0].toNat=10 then 1 else if s[0].toNat=123 then(Lib.indexByte s.data.toList 125+1).toNat else 0:=by obtain⟨c,a⟩:=Wq s b;rw[a];simp only[Fm,N7];rfl
theorem AcK(s:Af)(w:World)(d:0<s.size)(h:s.size<=600):
 Ah 136 #[.string s] w fun b c=>b=.returned (Aa (Fm s.data.toList))/\c=w:=by
 have a:Hid (Fm s.data.toList=if s[0].toNat=32\/s[0].toNat=10 then 1 else if s[0].toNat=123 then(Lib.indexByte s.data.toList 125+1).toNat else 0):=AcN s d;have e:=Lib.indexByte_ge s.data.toList 125;have g:Lib.indexByte s.data.toList 125<=600:=by have f:=SR s.data.toList 125;have:=Fo s;omega
 go_enter func136,ntmps136;go_wp2_with(go_at_call 162;refine(Adf _ _ _).mono ?_;rintro b c⟨rfl,rfl⟩);all_goals go_ret
 all_goals refine⟨L7 ?_,rfl⟩
 all_goals go_light
 all_goals rw[a.out]
 all_goals clear a
 all_goals simp only[N4,beq_eq_false_iff_ne] at*
 all_goals repeat' split
 all_goals omega
section
variable{l:List UInt8}{p:Nat}
theorem Wd(a:Fm (l.drop p)=0):B3 l p=p:=by
 rw[B3];split
 ·rfl
 ·rfl
theorem Sw(b:p<l.length)(a: ¬Fm (l.drop p)=0):B3 l p=B3 l (p+Fm (l.drop p)):=by rw[B3,Ag b,Ae a]
theorem Wc(a: ¬p<l.length):B3 l p=p:=by rw[B3,Ae a]
end
theorem Wb(l:List UInt8):Fm l<=l.length:=by
 unfold Fm;split
 ·simp
 ·rename_i c b;split
  ·simp
  ·split
   ·have:=SR (c::b) 125;simp only[Bg] at*;rcases this with a|⟨a,_⟩
    ·omega
    ·cases a
   ·omega
theorem Sv{l:List UInt8}{p:Nat}(b:p<=l.length):B3 l p<=l.length:=by
 fun_induction B3 l p
 ·assumption
 ·rename_i p c d a;apply a;have:=Wb (l.drop p);rw[Hj] at this;omega
 ·assumption
theorem Kc(s:Af)(p:Nat):(s.extract p s.size).data.toList=s.data.toList.drop p:=by simp only[Ur,Uo,Uw];rw[I1];rw[Hj,Fo];exact AA _
theorem Kd(s:Af)(p:Nat):(s.extract p s.size).size=s.size -p:=by have:=C4 List.length (Kc s p);rw[Hj,Fo,Fo] at this;exact this
def ML(s:Af)(a:Nat):Nat:=Fm (s.data.toList.drop a)
theorem AcL(s:Af)(a:Nat)(w:World)(e:a<s.size)(f:s.size<=600):
 Ah 136 #[.string (s.extract a s.size)] w fun c d=>c=.returned (Aa (ML s a))/\d=w:=by
 have b:=AcK (s.extract a s.size) w (by rw[Kd];omega) (by rw[Kd];omega);rw[Kc] at b;exact b
theorem Zs(s:Af)(p:Nat)(w:World)(k:p<=s.size)(j:s.size<=600):
 Ah 117 #[.string s,Aa p] w fun f i=>f=.returned (Aa (B3 s.data.toList p))/\i=w:=by
 go_enter func117,ntmps117;go_wp2;go_loop [1,5] (fun e _=> ∃a:Nat,a<=s.size/\e=Aa a/\B3 s.data.toList a=B3 s.data.toList p) (fun e _=>s.size -(intOf e).toNat)
 case atStart=>exact⟨p,k,rfl,rfl⟩
 case round=>
  obtain⟨a,l,rfl,hg⟩:=hrel;have c:Hid (B3 s.data.toList a=B3 s.data.toList p):=hg;clear hg;by_cases h:a<s.size
  ·have m:ML s a<=s.size -a:=by have g:=Wb (s.data.toList.drop a);rw[Hj,Fo] at g;exact g
   go_wp2_with(go_at_call 136;refine(AcL _ _ _ h j).mono ?_;rintro f i⟨rfl,rfl⟩)
   ·rename_i d;go_ret;refine⟨L7 ?_,rfl⟩;rw[<-c.out,Wd];have b:ML s a=0:=by simpa using d
    exact b
   ·rename_i d;have b: ¬Fm (s.data.toList.drop a)=0:=by simpa[ML] using d
    go_round
    case rel=>exact⟨a+ML s a,by omega,by go_num,by rw[<-c.out,Sw h b];rfl⟩
    case measure=>
     have: ¬ML s a=0:=b;simp[intOf];omega
  ·go_wp2;go_ret;refine⟨L7 ?_,rfl⟩;rw[<-c.out,Wc (by rw[Fo];omega)]
