/- The reference's walk as it runs: a name is declared. The ref -/
import Derived.Test.YtklobognaldjpaaGreatCRx24
import Derived.Laws.OwnMore
set_option maxRecDepth 1000000
set_option maxHeartbeats 8000000
namespace Go.Proofs.YtklobognaldjpaaGreat
open Go.Proofs.Tryz
open Go.RowKit
section
variable{O X cap B:Nat}{T:List Az}{c:Nat}{U:Int}{J:Value}{G:List GC}{I:Value}{H:List GC}{w w0:World}{Y Z:Value}{S:RS}
theorem VC(h:RA O X cap B T c U J G I H w Y Z S){j:PS}(E:An T j)(al:Af)(kind:Nat)(va:Option Addr)(n m args:Nat)(p:Bool){b:List GC}{k:Value}{o:Nat}(u:(b,k,o)=if p then(H,I,5) else(G,J,4))(D:A9 (b.map GC.sy) (Ad T j).text=none)(aw:b.length<=600){s:World->Prop}
 (C: ∀(t g:World)(x:Value),Ay w t->g.ownsRow (O+1) 207 6 x (b.length+1) (b.flatMap GC.row++[.string (Ad T j).text,Aa (kind:Nat),.slice va n m,Aa (args:Nat),Aw,Aa 0])->t.grownBy g k.ownBlock->(∀e,x.ownBlock=some e->k.ownBlock=some e\/t.heap.size<=e)->s (g.setCell ⟨O,o,none⟩ x)):
 Ah 125 #[Al O,Aa (j.next:Nat),.bool p,EP al kind va n m args] w fun d ao=>d=.returned A6/\Hid (s ao):=by
 have F:=h.lt;have az:X<w.heap.size:=by have:=h.tlt;omega
 have ay:=h.siz;have av:(j.next:Int)<T.length:=by unfold An at E;omega
 obtain⟨_,_,aq⟩:=h.curCells E;have a1:w.cell? (Ac O 0)=some (Ar X T.length cap):=h.cel 0 _ rfl;have a2:w.cell? (Ac O 1)=some (Aa 2):=h.cel 1 _ rfl;have a3:w.cell? (Ac O 2)=some (Aa 0):=h.cel 2 _ rfl;have M:w.cell? (Ac O 4)=some J:=h.cel 4 _ rfl;have am:w.cell? (Ac O 5)=some I:=h.cel 5 _ rfl
 have f:w.ownsRow (O+1) 207 6 k b.length (b.flatMap GC.row)/\w.cell? (Ac O o)=some k/\w.frozen? (Ac O o)=false:=by
  cases p
  ·cases u;exact⟨h.gro,M,h.frz 4⟩
  ·cases u;exact⟨h.hro,am,h.frz 5⟩
 obtain⟨f,an,R⟩:=f;obtain⟨ar,gc,ac,_⟩:=D9 h.gro;rw[ac] at M;obtain⟨ak,ad,ah,ai,aj⟩:=info_parts Tryz.infoCell;have hF:=fun z(V:Ay w z)=>GV (Kt (Cq (w':=z) f fun e d=>V.block e (f.lt e d).2)) (by rw[BF];omega) (Ad T j).text;rw[D] at hF;simp only[Es] at hF;have K:k.ownBlock≠some O:=fun d=>by have:=(f.lt O d).1;omega
 have r: ∀a B:Obj,Ay w ((w.alloc a).alloc B).drew:=fun a B=>(AP.alloc (by simp) _).drew;have ae: ∀a B:Obj,((w.alloc a).alloc B).drew.heap[w.heap.size+1]? =some B:=fun a B=>by have A:=heap_alloc_new (w.alloc a) B;rw[show(w.alloc a).heap.size=w.heap.size+1 from by simp] at A;exact A
 have y:Hid (∀a B:Obj,((w.alloc a).alloc B).drew.cell? (Ac O o)=some k/\((w.alloc a).alloc B).drew.frozen? (Ac O o)=false):=fun a B=>⟨by rw[(r a B).cell (p:=Ac O o) F];exact an,by rw[(r a B).frozen (p:=Ac O o) F];exact R⟩;have ag: ∀a B:Obj,((w.alloc a).alloc B).drew.ownsRow (O+1) 207 6 k b.length (b.flatMap GC.row):=fun a B=>Cq f fun e d=>(r a B).block e (f.lt e d).2;obtain⟨N,P,rfl,_⟩:=D9 f
 have HQ:Hid (∀(a B:Obj)(g:World)(i l:Nat),g.ownsRow (O+1) 207 6 (Ar i (b.length+1) l) (b.length+1) (b.flatMap GC.row++[.string (Ad T j).text,Aa (kind:Nat),.slice va n m,Aa (args:Nat),Aw,Aa 0])->((w.alloc a).alloc B).drew.grownBy g (Value.slice N b.length P).ownBlock->((Value.slice N b.length P).ownBlock=some i\/i=((w.alloc a).alloc B).drew.heap.size)->s (g.setCell ⟨O,o,none⟩ (Ar i (b.length+1) l))):=fun a B g i l q W aa=>C _ _ _ (r a B) q W (fun e d=>by
  have Q:i=e:=by injection d
  subst Q
  exact aa.elim .inl (fun d=>.inr (by omega)))
 generalize(Ad T j).text=L at*;clear C D f h;generalize b.flatMap GC.row=ap at*;unfold EP;cases p<;>cases u
 all_goals(
  go_enter func125,ntmps125;go_wp2_with(go_at_call 152;refine(hF _ AP).mono ?_;rintro d w1⟨rfl,q⟩;obtain rfl:=q.symm;clear q)
  go_region_law
   ((refine step_append_lies _ (by rfl) _ _ _ (by rfl) (O+1) 207 ak _ 6 88 underlying124 ad ah ai aj rfl (by omega) _ _ ap (by rfl) (ag _ _)
      (Ac (w.heap.size+1) 0) 1 1 [.string L,Aa kind,.slice va n m,Aa args,Aw,Aa 0] (by rfl) (by rfl) (World.news_of_block (cs:= #[.string L,Aa kind,.slice va n m,Aa args,Aw,Aa 0]) (t:=207) (fr:=(0,0)) (ae _ _)) (by simp[Value.oneCell'])
      (by omega) (by unfold maxLen;omega) (by omega) (by simp;omega) (w.heap.size+2) (by simp) ?_;intro i l w1 af v ab ax;have a0:=(v.cell_far _ (by simp;omega) (Ey K)).trans (y.out _ _).1;have au:=(v.frozen_far _ (by simp;omega) (Ey K)).trans (y.out _ _).2))
  all_goals go_wp2
  all_goals go_end0
  all_goals exact⟨rfl,HQ.out _ _ _ i l af v (by simpa using ab)⟩)
end
theorem Ye{a:List GC}{f:GC}(h:G1 a)(p:A9 (a.map GC.sy) f.name=none)(t:a.length<=600):G1 (a++[f]):=by
 have l:=MJ p
 have m: ∀(b:Nat)(c:GC),(a++[f])[b]? =some c->(b<a.length/\a[b]? =some c)\/(b=a.length/\c.name=f.name):=fun b c d=>by
  by_cases k:b<a.length
  ·rw[CR k] at d;exact .inl ⟨k,d⟩
  ·have q:=(BH.1 d).1;simp at q;have o:b=a.length:=by omega
   subst o;rw[CS (AA _),I2] at d;cases d;exact .inr ⟨rfl,rfl⟩
 refine⟨fun b n c e d V j=> ?_,by simp;omega⟩;rcases m b c d with⟨r,g⟩|⟨r,g⟩<;>rcases m n e V with⟨s,i⟩|⟨s,i⟩
 ·exact h.1 b n c e g i j
 ·exact absurd (j.trans (by rw[i])) (l c.sy (CD.2 ⟨c,Ct g,rfl⟩))
 ·exact absurd (j.symm.trans (by rw[g])) (l e.sy (CD.2 ⟨e,Ct i,rfl⟩))
 ·omega
section
variable{O X cap B:Nat}{T:List Az}{c:Nat}{U:Int}{J:Value}{G:List GC}{I:Value}{H:List GC}{w w1:World}{Y Z:Value}{S:RS}
theorem U7{e b:World}{f i:Value}{o:Nat}(m:O<=w1.heap.size)(c:Ay w1 e)(d:e.grownBy b f.ownBlock)(h: ∀a,f.ownBlock=some a->O<a):Below O w1 (b.setCell ⟨O,o,none⟩ i):=by
 have j:=c.size;have k:=d.size;refine⟨?_,?_,?_,by simp[World.setCell];omega,fun a l=> ?_⟩
 ·show b.os=_;rw[d.os];exact c.os
 ·show b.tape=_;rw[d.tape];exact c.tape
 ·show b.output=_;rw[d.output];exact c.output
 ·rw[Below.heap_setCell _ _ _ _ (by show a≠O;omega),d.block a (by omega) (fun g=>by have:=h a g.symm;omega)];exact c.block a (by omega)
section
variable(h:RA O X cap B T c U J G I H w Y Z S)(V:Ay w w1){va:Option Addr}
include h V
theorem R6{vn vc:Nat}{xs:List Int}(p:xs.length=vn)(j:w1.ownsRow w.heap.size 3 1 (.slice va vn vc) vn (xs.map (.int .i64))){b:PS}(n:An T b)(k:Af)(kind args:Nat)(f:A9 (G.map GC.sy) (Ad T b).text=none)(i:G.length<=600)(q: ∀r∈xs,VB r):
 Ah 125 #[Al O,Aa (b.next:Nat),.bool false,EP k kind va vn vc args] w1 fun a l=>a=.returned A6/\Hid (∃t,RA O X cap B T c U t (G++[⟨(Ad T b).text,kind,.slice va vn vc,args,Aw,0,[]⟩]) I H l Y Z {S with glob:=S.glob++[⟨(Ad T b).text,xs⟩]}/\Below O w1 l):=by
 subst p;exact VC (h.below V) n k kind va xs.length vc args false rfl f i (fun _ _ s e o g m=>⟨s,h.addG (V.trans (e.mono V.size)) (Cq j fun d a=>e.block d (j.lt d a).2) rfl rfl g o m q (Ye h.nd.1 f i),U7 (by have:=h.lt;have:=V.size;omega) e g (fun d a=>(h.gro.lt d a).1)⟩)
theorem AbN{e:Nat}{g:Int}(l:w1.ownsRow w.heap.size 3 1 (.slice va 1 e) 1 [Aa g]){b:PS}(p:An T b)(m:Af)(kind args:Nat)(i:A9 (H.map GC.sy) (Ad T b).text=none)(k:H.length<=600)(r:VB g):
 Ah 125 #[Al O,Aa (b.next:Nat),.bool true,EP m kind va 1 e args] w1 fun a n=>a=.returned A6/\Hid (∃t,RA O X cap B T c U J G t (H++[⟨(Ad T b).text,kind,.slice va 1 e,args,Aw,0,[]⟩]) n Y Z {S with here:=S.here++[((Ad T b).text,g)]}/\Below O w1 n):=
 VC (h.below V) p m kind va 1 e args true rfl i k (fun _ _ s f q j o=>⟨s,h.addH (V.trans (f.mono V.size)) (Cq l fun d a=>f.block d (l.lt d a).2) j q o r (Ye h.nd.2 i k),U7 (by have:=h.lt;have:=V.size;omega) f j (fun d a=>(h.hro.lt d a).1)⟩)
end
end
def Hh(a:Af×Nat):Sy:=⟨a.1,0,0⟩
theorem LO: ∀(c:List A8)(E:Ao),(AX E c).2=none->(AX E c).1={E with here:=E.here++c.map Hh}/\ ∀a d e,c=a++d::e->A9 (E.here++a.map Hh) d.1=none
 |[],E,_=>⟨by rw[AX];simp,fun a d e f=>by cases a<;>cases f⟩
 |b::c,E,h=>by
  rw[AX] at h⊢;obtain⟨g,i⟩:=Bq h
  have j:A9 E.here b.1=none:=by
   unfold Be at g;split at g
   ·cases g
   ·rename_i o;cases n:A9 E.here b.1 with
    |none=>rfl
    |some p=>exact absurd (show(A9 (E.row true) b.1).isSome=true by show(A9 E.here b.1).isSome=true;rw[n];rfl) o
  have m:(Be E true b.1 b.2 0 0).1={E with here:=E.here++[Hh b]}:=by unfold Be;rw[Ae (by show¬(A9 E.here b.1).isSome=true;rw[j];simp)];rfl
  rw[m] at i⊢;obtain⟨k,l⟩:=LO c _ i;refine⟨by rw[k];simp,fun a d e f=> ?_⟩;cases a with
  |nil=>cases f;simpa using j
  |cons q a=>
   cases f;have:=l a d e rfl;simpa using this
section
variable{T:List Az}
theorem Ya: ∀(c:Nat)(a:List A8)(s:PS),∃b,(Bp T c a s).1=a++b
 |0,a,s=>⟨[],by rw[Bp];simp⟩
 |c+1,a,s=>by
  rw[Bp];split
  ·obtain⟨b,V⟩:=Ya c (a++[(Ap T (Ab s)).1]) (Ap T (Ab s)).2;exact⟨(Ap T (Ab s)).1::b,by rw[V];simp⟩
  ·exact⟨[],by simp⟩
theorem Tz{s:PS}(a:s.code=0)(h:(Ap T s).2.code=0):AN T .name s=true:=by
 cases b:AN T .name s with
 |true=>rfl
 |false=>
  exfalso;unfold Ap at h;rw[b] at h;unfold AI at h;simp[a] at h
variable{O X cap B:Nat}{c:Nat}{U:Int}{J:Value}{G:List GC}{I:Value}{H:List GC}{w w1:World}{Y Z:Value}{S:RS}
theorem Wt(v:AR T)(au:Cj T)(h:RA O X cap B T c U J G I H w Y Z S){s:PS}(av:An T s)(ap:s.code=0)(aq:(Bf T s).2.code=0){E:Ao}(aa:E.here=H.map GC.sy)(ae:(AX E (Bf T s).1).2=none)(an:H.length<=s.next):
 Ah 128 #[Al O,Aa (s.next:Nat)] w fun j z=>j=.returned (Aa ((Bf T s).2.next:Nat))/\Hid (∃y d,RA O X cap B T c U J G y d z Y Z {S with here:=S.here++(Bf T s).1.map fun g=>(g.1,0)}/\d.map GC.sy=H.map GC.sy++(Bf T s).1.map Hh/\d.length<=(Bf T s).2.next/\Below O w z):=by
 have a5:=h.siz;have ag:Hid (RA O X cap B T c U J G I H w Y Z S):=h;have a3: ∀w,(Instr.makeSlice 23 (Aa 1) (Aa 1)).run prog w=.ok (Ar w.heap.size 1 1) (w.alloc (.cells #[Aa 0] 3)):=fun _=>by kernel_rfl
 have ak:Hid (∀u g n,(Bf T s).1=u++g::n->A9 (H.map GC.sy++u.map Hh) g.1=none):=fun u g n j=>by have:=(LO _ E ae).2 u g n j;rw[aa] at this;exact this
 clear h ae aa;go_enter func128,ntmps128;go_wp2;go_loopw [1,5,6] (fun M _ _ wr=> ∃(a:PS)(b:List A8)(f:Nat)(y:Value)(d:List GC),M=Aa (a.next:Nat)/\An T a/\a.code=0/\T.length<=a.next+f/\d.length<=a.next/\Hid (Bp T f (b++[(Ap T a).1]) (Ap T a).2=Bf T s)/\Hid (RA O X cap B T c U J G y d wr Y Z {S with here:=S.here++b.map fun g=>(g.1,0)}/\d.map GC.sy=H.map GC.sy++b.map Hh/\Below O w wr)) (fun M _ _ _=>T.length -(intOf M).toNat)
 case atStart=>exact⟨s,[],T.length,I,H,rfl,av,ap,by omega,an,rfl,by simpa using ag.out,by simp,Below.refl _ _⟩
 case round=>
  obtain⟨a,b,f,y,d,rfl,x,F,a4,az,A,i⟩:=hrel;have a0:a.next<T.length:=x;have ax:Av T a:=fun h=>absurd F h;have ay:=In v a ax
  have ac:(Ap T a).2.code=0:=by
   cases e:Aj T Bx (Ap T a).2 with
   |true=>exact Cp v ay.1 Ai e
   |false=>
    have:=A.out;have j:Bp T f (b++[(Ap T a).1]) (Ap T a).2=(b++[(Ap T a).1],(Ap T a).2):=by cases f<;>simp[Bp,e]
    rw[j] at this;rw[show(Ap T a).2=(Bf T s).2 from C4 Prod.snd this];exact aq
  have L:=Tz F ac;have af:=Kn L;have K:=JJ v x L;have a1:a.next+1<T.length:=K;have q:=A.out;rw[af] at q
  have aw:(Ad T a).kind.r=1:=by
   have:(Ad T a).kind=.name:=by simpa[AN] using L
   rw[this];rfl
  have a7:wr.cell? (Ac O 2)=some (Aa 0):=i.out.1.cel 2 _ rfl;have ab:=OF i.out.1 x rfl aw;have ar:A9 (d.map GC.sy) (Ad T a).text=none:=by obtain⟨n,V⟩:=Ya f (b++[((Ad T a).text,(Ad T a).pos)]) (Ab a);have ao:(Bp T f (b++[((Ad T a).text,(Ad T a).pos)]) (Ab a)).1=(Bf T s).1:=C4 Prod.fst q;rw[i.out.2.1];exact ak.out b ((Ad T a).text,(Ad T a).pos) n (by rw[<-ao,V];simp)
  have D:=AbN i.out.1 (w1:=wr.alloc (.cells #[Aa 0] 3)) AP (OJ (AA _) (heap_alloc_new _ _)) x ⟨#[]⟩ 0 0 ar (by omega) ⟨by omega,by omega⟩;unfold EP at D;have P:Hid (∀(t:World)(k:Value)(m:List GC)(Q:RS),RA O X cap B T c U J G k m t Y Z Q->Ah 94 #[Al O,Aa ((a.next:Int)+1),.string Bx] t fun j z=>j=.returned (.bool (Aj T Bx (Ab a)))/\z=t):=fun t k m Q am=>Dw am K (by show _=((a.next+1:Nat):Int);omega) _ (au _ (by decide));have ah:Hid (Below O w wr):=i.out.2.2;have al:Hid (d.map GC.sy=H.map GC.sy++b.map Hh):=i.out.2.1;have a6:=i.out.1.lt;have r:Hid _:=q;clear i A q af ac;go_upto_region 6 with(first|(go_at_call 124;refine Aq ab ?_)|(go_at_call 125;refine D.mono ?_;rintro j N⟨rfl,m⟩));obtain⟨k,C,R⟩:=m.out;have l:=P.out N k _ _ C;have p:Hid (RA O X cap B T c U J G k (d++[⟨(Ad T a).text,0,Ar wr.heap.size 1 1,0,Aw,0,[]⟩]) N Y Z {S with here:=S.here++(b++[((Ad T a).text,(Ad T a).pos)]).map fun g=>(g.1,0)}/\(d++[(⟨(Ad T a).text,0,Ar wr.heap.size 1 1,0,Aw,0,[]⟩:GC)]).map GC.sy=H.map GC.sy++(b++[((Ad T a).text,(Ad T a).pos)]).map Hh/\Below O w N):=⟨by simpa using C,by rw[E6,al.out];simp[GC.sy,Hh],ah.out.trans ((((Below.refl O wr).alloc (by omega) _).trans R))⟩;clear C R m D ab P;cases e:Aj T Bx (Ab a) with
  |true=>
   rw[e] at l;have ad:=AD v K e Ai;have a2:a.next+2<T.length:=ad;obtain⟨o,rfl⟩: ∃o,f=o+1:=⟨f -1,by omega⟩;have aj:Hid (Bp T o ((b++[((Ad T a).text,(Ad T a).pos)])++[(Ap T (Ab (Ab a))).1]) (Ap T (Ab (Ab a))).2=Bf T s):=by have:=r.out;rw[Bp,Ag e] at this;exact this
   simp only[bs] at l;clear r e;go_wp2_with(go_at_call 94;refine Aq l ?_)
   go_roundw
   case rel=>exact⟨Ab (Ab a),_,o,k,_,by show _=Value.int .i64 ((a.next+1+1:Nat):Int);go_num,ad,F,by show T.length<=a.next+1+1+o;omega,by show _<=a.next+1+1;simp;omega,aj.out,p.out⟩
   case measure=>simp[intOf];omega
  |false=>
   rw[e] at l;have W:(b++[((Ad T a).text,(Ad T a).pos)],Ab a)=Bf T s:=by rw[<-r.out];cases f<;>simp[Bp,e]
   have ai:Hid _:=W;simp only[bs] at l;clear r e W;go_wp2_with(go_at_call 94;refine Aq l ?_);go_ret;rw[<-ai.out];exact⟨by show _=Ending.returned (Aa ((a.next+1:Nat):Int));simp,k,_,p.out.1,p.out.2.1,by show _<=a.next+1;simp;omega,p.out.2.2⟩
end
theorem JO: ∀(a:List Gl)(E:Ao)(b:List Gl),(AO E (a++b)).2=none->(AO E a).2=none/\(AO (AO E a).1 b).2=none/\(AO E (a++b)).1=(AO (AO E a).1 b).1
 |[],E,b,h=>by
  have d:AO E []=(E,none):=by rw[AO]
  rw[d];exact⟨rfl,h,rfl⟩
 |c::a,E,b,h=>by
  rw[IZ,AO] at h⊢;obtain⟨j,k⟩:=Bq h;obtain⟨f,g,i⟩:=JO a _ b k;have e:(AO E (c::(a++b))).1=(AO (Ce E c).1 (a++b)).1:=by rw[AO]
  exact⟨by show Option.or _ _=none;rw[j,f];rfl,g,by rw[e];exact i⟩
theorem Nd{E:Ao}{a:Gl}:AO E [a]=((Ce E a).1,(Ce E a).2):=by
 have b: ∀E:Ao,AO E []=(E,none):=fun E=>by rw[AO]
 rw[AO,b];cases(Ce E a).2<;>rfl
theorem MH{E:Ao}{a:Af}{p kind args:Nat}(h:(Be E false a p kind args).2=none):A9 E.glob a=none/\(Be E false a p kind args).1=E.add false ⟨a,kind,args⟩:=by
 unfold Be at h⊢;split at h
 ·cases h
 ·rename_i b
  have c:A9 E.glob a=none:=by
   cases d:A9 E.glob a with
   |none=>rfl
   |some e=>exact absurd (show(A9 (E.row false) a).isSome=true by show(A9 E.glob a).isSome=true;rw[d];rfl) b
  exact⟨c,by rw[Ae b]⟩
section
variable{T:List Az}
theorem WG: ∀(c:Nat)(a:List Gl)(s:PS),∃b,(Bw T c a s).1=a++b
 |0,a,s=>⟨[],by rw[Bw];simp⟩
 |c+1,a,s=>by
  rw[Bw];split
  ·obtain⟨b,V⟩:=WG c (a++[(AE T (Ab s)).1]) (AE T (Ab s)).2;exact⟨(AE T (Ab s)).1::b,by rw[V];simp⟩
  ·exact⟨[],by simp⟩
variable{O X cap B:Nat}{c:Nat}{U:Int}{J:Value}{G:List GC}{I:Value}{H:List GC}{w w1:World}{Y Z:Value}{S:RS}
def IW(O X cap B:Nat)(T:List Az)(c:Nat)(U:Int)(G:List GC)(I:Value)(H:List GC)(Y Z:Value)(S:RS)(E:Ao)(w:World)(d:List Gl)(e:World):Prop:=
 ∃(g:Value)(a:List GC),RA O X cap B T c U g (G++a) I H e Y Z {S with glob:=S.glob++d.map Ff}/\(G++a).map GC.sy=(AO E d).1.glob/\(∀b∈a,(b.kind=0/\ ∃f cap,b.vv=.slice f 1 cap)\/b.kind=1)/\a.length=d.length/\Below O w e
theorem IW.more{E:Ao}{b:List Gl}{it:Gl}{g:Value}{e:List GC}{a:GC}(h:RA O X cap B T c U g (G++e++[a]) I H w1 Y Z {S with glob:=S.glob++b.map Ff++[Ff it]})(m:(G++e).map GC.sy=(AO E b).1.glob)(j:(a.kind=0/\ ∃f cap,a.vv=.slice f 1 cap)\/a.kind=1)(k:(AO E (b++[it])).2=none)(i:((Ce (AO E b).1 it).1).glob=(AO E b).1.glob++[a.sy])(n: ∀a∈e,(a.kind=0/\ ∃f cap,a.vv=.slice f 1 cap)\/a.kind=1)(l:e.length=b.length)(V:Below O w w1):IW O X cap B T c U G I H Y Z S E w (b++[it]) w1:=by
 refine⟨g,e++[a],by rw[<-DO,E6,<-DO];exact h,?_,fun o d=> ?_,by simp[l],V⟩
 ·rw[(JO b E [it] k).2.2,Nd,i,<-DO,E6,m];rfl
 ·rcases BD.1 d with d|d
  ·exact n o d
  ·rw[Hk.1 d];exact j
end
theorem XL(a:Nat)(h:a<=20)(w:World):(Instr.makeSlice 23 (Aa (a:Nat)) (Aa (a:Nat))).run prog w=.ok (Ar w.heap.size a a) (w.alloc (.cells (List.replicate a (Aa 0)).toArray 3)):=by rcases(by omega:a=0\/a=1\/a=2\/a=3\/a=4\/a=5\/a=6\/a=7\/a=8\/a=9\/a=10\/a=11\/a=12\/a=13\/a=14\/a=15\/a=16\/a=17\/a=18\/a=19\/a=20) with rfl|rfl|rfl|rfl|rfl|rfl|rfl|rfl|rfl|rfl|rfl|rfl|rfl|rfl|rfl|rfl|rfl|rfl|rfl|rfl|rfl;all_goals kernel_rfl
section
variable{T:List Az}
theorem Kz(b:AR T){a:Af}{s:PS}(e:Av T s)(c:a.toList≠[]):Av T (Am T a s):=by
 unfold Am;split
 ·rename_i d;exact A4 (Cp b e c d)
 ·intro _;rfl
theorem Afs{s:PS}(b:s.code=0)(h:(BV T s).2.code=0):AN T .number s=true/\BV T s=(((Ad T s).val,(Ad T s).pos),Ab s):=by
 cases a:AN T .number s with
 |true=>exact⟨rfl,by unfold BV;rw[a];rfl⟩
 |false=>
  exfalso;unfold BV at h;rw[a] at h;unfold AI at h;simp[b] at h
theorem AfO{w:World}{base b:Nat}{xs:List Value}(V:base<=b)(a:xs.length<=20)(h:w.heap[b]? =some (.cells xs.toArray 3)):w.ownsRow base 3 1 (Ar b xs.length xs.length) xs.length xs:=
 ⟨by omega,.inr ⟨b,xs.length,_,rfl,V,h,AA _,by unfold maxLen;omega,by simp,by simp⟩⟩
variable{E:Ao}{call:Dr}{pf:AU}
def Dn(call:Dr)(b:Bool)(a:List Ex)(S:RS):List Int×RS:=if b&& !S.stop.isSome then Cd call a S else([],S)
theorem VL(b:Ex): ∀(a:List Ex)(S:RS),S.stop=none->
 (Cd call (a++[b]) S).2=(if(Cd call a S).2.stop.isSome then(Cd call a S).2 else(AB call b (Cd call a S).2).2)/\
 ((Cd call (a++[b]) S).2.stop=none->(Cd call a S).2.stop=none/\(Cd call (a++[b]) S).1=(Cd call a S).1++[(AB call b (Cd call a S).2).1])
 |[],S,h=>by
  have f:Cd call [] S=([],S):=by rw[Cd]
  have g: ∀S,Cd call [] S=([],S):=fun S=>by rw[Cd]
  rw[Hl,f,Cd,g];cases c:(AB call b S).2.stop with
  |none=>simp[h,c]
  |some i=>simp[h,c]
 |e::a,S,h=>by
  rw[IZ,Cd,Cd];cases c:(AB call e S).2.stop with
  |some i=>simp[c]
  |none=>
   have:=VL b a (AB call e S).2 c;simp only[KO,Jv,ID];exact⟨this.1,fun d=>⟨(this.2 d).1,by rw[(this.2 d).2];rfl⟩⟩
theorem Sh{a:Bool}(e:Ex)(b:List Ex)(S:RS):
 (Dn call a (b++[e]) S).2=(AC call a e (Dn call a b S).2).2/\
 (a=true->(Dn call a (b++[e]) S).2.stop=none->(Dn call a b S).2.stop=none/\(Dn call a (b++[e]) S).1=(Dn call a b S).1++[(AC call a e (Dn call a b S).2).1]):=by
 cases d:(a&& !S.stop.isSome) with
 |false=>
  have h: ∀f,Dn call a f S=([],S):=fun f=>by unfold Dn;rw[Ae (by rw[d];simp)]
  rw[h,h,Ez d];exact⟨rfl,fun c g=>by rw[c,g] at d;cases d⟩
 |true=>
  have m:S.stop=none:=by
   cases k:S.stop with
   |none=>rfl
   |some o=>rw[k] at d;simp at d
  have l:a=true:=by cases a<;>simp_all
  subst l;have h: ∀f,Dn call true f S=Cd call f S:=fun f=>by unfold Dn;rw[Ag d]
  rw[h,h];obtain⟨c,g⟩:=VL (call:=call) e b S m;cases i:(Cd call b S).2.stop with
  |some n=>
   rw[Ez (by rw[i];rfl)];rw[i] at c g;simp only[Option.isSome_some,Hr] at c;exact⟨c,fun _ j=>by have:=(g j).1;cases this⟩
  |none=>
   rw[FM i];rw[i] at c g;simp only[KO,Jv,ID] at c;exact⟨c,fun _ j=>g j⟩
theorem PK{a:Bool}(S:RS):Dn call a [] S=([],S):=by
 unfold Dn;split
 ·rw[Cd]
 ·rfl
theorem XF: ∀(b:Nat)(a:List Ex)(s:PS),Cy E (Bj T pf b a s).1=none->Cy E a=none
 |0,a,s,h=>by rw[Bj] at h;exact h
 |b+1,a,s,h=>by
  rw[Bj] at h;split at h
  ·have:=XF b _ _ h;rw[Qe] at this;exact(Bq this).1
  ·exact h
variable{O X cap B:Nat}{c:Nat}{U:Int}{J:Value}{G:List GC}{I:Value}{H:List GC}{w:World}{Y Z:Value}{S:RS}
theorem AcV(h:RA O X cap B T c U J G I H w Y Z S)(b:Int):Ah 209 #[Al O,Aa b] w fun a d=>a=.returned (Aa 0)/\d=w:=by have e:w.cell? (Ac O 1)=some (Aa 2):=h.cel 1 _ rfl;clear h;go_enter func209,ntmps209;go_wp2;go_ret;exact⟨rfl,rfl⟩
end
