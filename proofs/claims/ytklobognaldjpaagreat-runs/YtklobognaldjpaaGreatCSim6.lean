/- Plain: the machine and the code of a statement, whole. Plain -/
import Derived.Test.YtklobognaldjpaaGreatCSim4
namespace Go.Proofs.YtklobognaldjpaaGreat
open Go.Proofs.Tryz
section
variable{W:List Nat}{B:Nat}{E:CE}{U:List A8}{V:List Af}{X:Bool->Af->Nat->Prop}{call:Dr}{d:Nat}
theorem C6.at{p q:Nat}{a:List Nat}(c:C6 W p a)(b:p=q):C6 W q a:=b▸c
theorem B7.at{a:DC}{s:RS}{b:MS}{p q:Nat}{c:List Int}(e:B7 B U V a s b p c)(d:p=q):B7 B U V a s b q c:=d▸e
theorem Ai2{s:RS}(a: ¬(s.unit B).stop.isSome=true):(s.unit B).used=s.used+1:=by
 unfold RS.unit at*;split at a
 ·simp[RS.fail] at a
 ·rename_i b;rw[Ae b]
theorem Aif{f:DC}{s:RS}{d:MS}{p:Nat}{h:Af}{b:Nat}{c e:Int}(a:B7 B U V f s d p ([]++[((D8 U b:Nat):Int)+c]++[e]))(o:W[p]? =some 9)
 (i:U.findIdx? (fun v=>AS v.1 h)=some b)(w:0<=c)(z:c<(U.getD b default).2):
 ∃j,Cc W B d j/\B7 B U V f (s.put h c e) j (p+1) []:=by
 obtain⟨t,u⟩:=Lg a;have k:d.stack.dropLast.getLast?=some (((D8 U b:Nat):Int)+c)/\d.stack.dropLast.dropLast=f.S++(s.here.map (·.2)++f.extra)++[]:=by rw[u,<-DO];exact⟨Td _ _,Sa _ _⟩
 have g:b<s.glob.length:=by have:=JF i;rw[<-a.shape] at this;simpa[Fh] using this
 have x:(s.glob.getD b default).vals.length=(U.getD b default).2:=by rw[<-ON _ _ g,a.shape]
 have l:s.put h c e={s with glob:=s.glob.set b ⟨(s.glob.getD b default).name,(s.glob.getD b default).vals.set c.toNat e⟩}:=by unfold RS.put;rw[Ok,a.shape,i]
 obtain⟨m,n⟩:=V6 s.glob g (i:=c.toNat) (by omega) e;have y:D8 U b+c.toNat<d.places.length:=by have:=PM s.glob g (i:=c.toNat) (by omega);rw[a.shape] at this;rw[a.places];exact(BH.1 this).1
 have r:(((D8 U b:Nat):Int)+c).toNat=D8 U b+c.toNat:=by omega
 have q:CP W B d=some {d with pc:=p+1,stack:=f.S++(s.here.map (·.2)++f.extra)++[],places:=d.places.set (D8 U b+c.toNat) e}:=by unfold CP;rw[a.pc,o];simp only[Iv,t,k.1,k.2,r];rw[Ag (by omega)]
 refine⟨_,Cc.one a.over a.small q,?_⟩;rw[l];refine⟨rfl,rfl,a.base,a.calls,?_,a.input,a.out,a.used,a.over,a.stop,a.lid,a.outs,?_,a.names,B6 _,a.deep⟩
 ·show d.places.set _ e=G7 _;rw[m,a.places,a.shape]
 ·show Fh _=U;rw[n,a.shape]
theorem Zq{test:RS->Int×RS}{e:RS->RS}{d:DC}{p b n:Nat}(v:W[p]? =some 1)
 (x: ∀s a,B7 B U V d s a (p+1) []->BB W B a (test s).2 (fun i=>B7 B U V d (test s).2 i (p+1+b) ([]++[(test s).1])))
 (u: ∀s a,B7 B U V d s a (p+1+b+2) []->BB W B a (e s) (fun i=>B7 B U V d (e s) i (p+1+b+2+n) []))
 (y:C6 W (p+1+b) [23,p+1+b+2+n+2])(w:C6 W (p+1+b+2+n) [22,p])
 (gt: ∀s,s.used<=(test s).2.used)(t: ∀s,s.used<=(e s).used):
 ∀(h:Nat)(s:RS)(a:MS),B+1<s.used+h->B7 B U V d s a p []->BB W B a (JP B test e h s) (fun i=>B7 B U V d (JP B test e h s) i (p+1+b+2+n+2) [])
 |0,s,a,C,q=>by have:=q.lid;omega
 |h+1,s,a,C,q=>by
  rw[JP];have j:=Ky q v;by_cases g:(s.unit B).stop.isSome=true
  ·rw[Ag g];exact j.stopped g
  rw[Ae g];refine j.bind g fun D j=> ?_;have H:=Ai2 g;have F:=gt (s.unit B);generalize s.unit B=o at*;have c:=x o D j;by_cases l:(test o).2.stop.isSome=true
  ·rw[Ag l];exact c.stopped l
  rw[Ae l];refine c.bind l fun I c=> ?_;generalize(test o).2=r at*;generalize(test o).1=E at*;have k:=OW c y;by_cases z:E=0
  ·rw[Ag z] at k⊢;exact BB.now c.stop _ k c.goes
  rw[Ae z] at k⊢;refine BB.after k ?_;have f:=u r _ (c.goes (p':=p+1+b+2) (ops':=[]));by_cases m:(e r).stop.isSome=true
  ·rw[Ag m];exact f.stopped m
  rw[Ae m];refine f.bind m fun J f=> ?_;have G:=t r;have A:=QR f w;refine BB.after A ?_;exact Zq v x u y w gt t h _ _ (by omega) f.goes
mutual
theorem OO(v:NI W B E U V X call d)(w:(U.map (·.2)).sum<=1000000)(z:Jw call): ∀(l:St)(p:Nat)(f:DC)(s:RS)(q:MS),E5 E U V X l->f.calls.length=d->C6 W p (AH E p l)->B7 B U V f s q p []->
 BB W B q (Cr B call l s) (fun S=>B7 B U V f (Cr B call l s) S (p+(AH E p l).length) [])
 |.nil,p,f,s,q,g,_,_,_=>by rw[E5] at g;exact g.elim
 |.assign N af y,p,f,s,q,g,k,c,o=>by
  rw[E5] at g;rw[AH] at c⊢;rw[Cr];have b:=Ky o c.left.left.one;by_cases h:(s.unit B).stop.isSome=true
  ·rw[Ag h];exact b.stopped h
  rw[Ae h];refine b.bind h fun i b=> ?_;have a:=Im v w y (p+1) f (s.unit B) i [] g.2 k c.left.right b;by_cases j:(AB call y (s.unit B)).2.stop.isSome=true
  ·rw[Ag j];exact a.stopped j
  rw[Ae j];refine a.bind j fun u a=> ?_;have P:=c.right;rw[AG,<-Gz] at P;obtain⟨M,ag,r⟩:=Zr a g.1 P;refine BB.now r.stop M ag ?_;rw[AG,AG,<-Gz,<-Gz];exact r
 |.put N af G y,p,f,s,q,g,k,c,o=>by
  rw[E5] at g;rw[AH] at c⊢;rw[Cr];obtain⟨⟨H,R,av⟩,az,ay⟩:=g;have b:=Ky o c.left.left.left.one;by_cases h:(s.unit B).stop.isSome=true
  ·rw[Ag h];exact b.stopped h
  rw[Ae h];refine b.bind h fun i b=> ?_;generalize s.unit B=n at*;have a:=Im v w G (p+1) f n i [] az k c.left.left.right.left b;by_cases j:(AB call G n).2.stop.isSome=true
  ·rw[Ag j];exact a.stopped j
  rw[Ae j];refine a.bind j fun u a=> ?_;generalize(AB call G n).2=m at*;generalize(AB call G n).1=J at*;have aw:H<m.glob.length:=by have:=JF R;rw[<-a.shape] at this;simpa[Fh] using this
  have a0:m.row N=(m.glob.getD H default).vals:=by unfold RS.row;rw[Ok,a.shape,R]
  have al:(m.glob.getD H default).vals.length=(U.getD H default).2:=by rw[<-ON _ _ aw,a.shape]
  have t:=ZC a c.left.left.right.right;rw[av] at t;rw[a0];have a6:=Yi U (JF R);by_cases A:G8 (m.glob.getD H default).vals J=true
  ·rw[Ag A];unfold G8 at A;rw[RY,al] at A;rw[Ae (by simp only;omega)] at t;have a1:BW ((D8 U H:Nat)+J)=(D8 U H:Nat)+J:=Um (by omega) (by omega);simp only[a1] at t;refine BB.after t ?_;have Z:=c.left.right;have Z:=Z.at (q:=p+1+(Ak E (p+1) G).length+3) (by simp;omega);have r:=Im v w y (p+1+(Ak E (p+1) G).length+3) f m _ ([]++[((D8 U H:Nat):Int)+J]) ay k Z a.goes;by_cases I:(AB call y m).2.stop.isSome=true
   ·rw[Ag I];exact r.stopped I
   rw[Ae I];refine r.bind I fun M r=> ?_;have ao:=(c.right.at (q:=p+1+(Ak E (p+1) G).length+3+(Ak E (p+1+(Ak E (p+1) G).length+3) y).length) (by simp;omega)).one;obtain⟨a2,a3,ah⟩:=Aif r ao R (by omega) (by omega);refine BB.now ah.stop a2 a3 ?_;exact ah.at (by simp;omega)
  ·rw[Ae A];unfold G8 at A;rw[RY,al] at A;rw[Ag (by simp only;omega)] at t;exact BB.dies (c:=9) rfl _ t rfl a.out a.used
 |.proc N af args,p,f,s,q,g,k,c,o=>by
  rw[E5] at g;rw[AH] at c⊢;rw[Cr];have b:=Ky o c.left.one;by_cases h:(s.unit B).stop.isSome=true
  ·rw[Ag h];exact b.stopped h
  rw[Ae h];refine b.bind h fun i b=> ?_;generalize s.unit B=n at*;have a:=TV v w args (p+1) f n i [] g.2 k c.right.left b;by_cases j:(Cd call args n).2.stop.isSome=true
  ·rw[Ag j];exact a.stopped j
  rw[Ae j];refine a.bind j fun u a=> ?_;have ak:=a.2;have A:=c.right.right;rw[<-ak] at A;have:=v false N (Cd call args n).1 f (Cd call args n).2 u _ [] (by rw[ak];exact g.1) k A a.1;refine this.mono fun S ax=> ?_;rw[AG,AG,<-Gz,<-Gz];exact ax
 |.ite e l L,p,f,s,q,g,k,c,o=>by
  rw[E5] at g;rw[AH] at c⊢;rw[Cr];have am:W[p]? =some 1:=by split at c<;>exact c.left.one
  have Y:C6 W (p+1) (Ak E (p+1) e):=by
   split at c
   ·exact c.right.left.left
   ·exact c.right.left.left.left.left
  have b:=Ky o am;by_cases h:(s.unit B).stop.isSome=true
  ·rw[Ag h];exact b.stopped h
  rw[Ae h];refine b.bind h fun i b=> ?_;generalize s.unit B=n at*;have a:=Im v w e (p+1) f n i [] g.1 k Y b;by_cases j:(AB call e n).2.stop.isSome=true
  ·rw[Ag j];exact a.stopped j
  rw[Ae j];refine a.bind j fun u a=> ?_;generalize(AB call e n).2=m at*;generalize(AB call e n).1=x at*;by_cases Q:L.isNil=true
  ·rw[Ag Q] at c⊢;have C:=OW a c.right.left.right;have ae:C6 W (p+1+(Ak E (p+1) e).length+2) (AH E (p+1+(Ak E (p+1) e).length+2) l):=by have:=c.right.right;rw[AG,<-Gz] at this;exact this
   have ac:p+([1]++(Ak E (p+1) e++[23,p+1+(Ak E (p+1) e).length+2+(AH E (p+1+(Ak E (p+1) e).length+2) l).length]++AH E (p+1+(Ak E (p+1) e).length+2) l)).length=p+1+(Ak E (p+1) e).length+2+(AH E (p+1+(Ak E (p+1) e).length+2) l).length:=by simp;omega
   rw[ac];by_cases D:x=0
   ·rw[Ag D] at C;rw[Ae (by simpa using D)];have ar:Cr B call L m=m:=by cases L<;>first|(simp[St.isNil] at Q;done)|rw[Cr]
    rw[ar];exact BB.now a.stop _ C a.goes
   ·rw[Ae D] at C;rw[Ag D];exact BB.after C (OO v w z l _ f m _ g.2.1 k ae a.goes)
  ·rw[Ae Q] at c⊢;have C:=OW a c.right.left.left.left.right;have ae:C6 W (p+1+(Ak E (p+1) e).length+2) (AH E (p+1+(Ak E (p+1) e).length+2) l):=by have:=c.right.left.left.right;rw[AG,<-Gz] at this;exact this
   have ad:=c.right.left.right;have hF:=c.right.right;have ad:=ad.at (q:=p+1+(Ak E (p+1) e).length+2+(AH E (p+1+(Ak E (p+1) e).length+2) l).length) (by simp;omega);have ac: ∀O,p+[1].length+(Ak E (p+1) e++[23,p+1+(Ak E (p+1) e).length+2+(AH E (p+1+(Ak E (p+1) e).length+2) l).length+2]++AH E (p+1+(Ak E (p+1) e).length+2) l++[22,O]).length=p+1+(Ak E (p+1) e).length+2+(AH E (p+1+(Ak E (p+1) e).length+2) l).length+2:=by intro O;simp;omega
   rw[ac] at hF;have aq: ∀O,p+([1]++(Ak E (p+1) e++[23,p+1+(Ak E (p+1) e).length+2+(AH E (p+1+(Ak E (p+1) e).length+2) l).length+2]++AH E (p+1+(Ak E (p+1) e).length+2) l++[22,O]++AH E (p+1+(Ak E (p+1) e).length+2+(AH E (p+1+(Ak E (p+1) e).length+2) l).length+2) L)).length=p+1+(Ak E (p+1) e).length+2+(AH E (p+1+(Ak E (p+1) e).length+2) l).length+2+(AH E (p+1+(Ak E (p+1) e).length+2+(AH E (p+1+(Ak E (p+1) e).length+2) l).length+2) L).length:=by intro O;simp;omega
   rw[aq];by_cases D:x=0
   ·rw[Ag D] at C;rw[Ae (by simpa using D)];exact BB.after C (OO v w z L _ f m _ (g.2.2 (by simpa using Q)) k hF a.goes)
   ·rw[Ae D] at C;rw[Ag D];refine BB.after C ?_;have r:=OO v w z l _ f m _ g.2.1 k ae a.goes;by_cases I:(Cr B call l m).stop.isSome=true
    ·exact r.stopped I
    ·refine r.bind I fun M r=> ?_;exact BB.now r.stop _ (QR r ad) r.goes
 |.loop e K,p,f,s,q,g,k,c,o=>by rw[E5] at g;rw[AH] at c⊢;rw[Cr];have Y:=c.right.left.left.left;have ap:=c.right.left.left.right;have aa:=c.right.left.right;have ab:=c.right.right;have aa:=aa.at (q:=p+1+(Ak E (p+1) e).length+2) (by simp;omega);have ab:=ab.at (q:=p+1+(Ak E (p+1) e).length+2+(AH E (p+1+(Ak E (p+1) e).length+2) K).length) (by simp;omega);rw[show p+(([1]:List Nat)++(Ak E (p+1) e++[23,p+1+(Ak E (p+1) e).length+2+(AH E (p+1+(Ak E (p+1) e).length+2) K).length+2]++AH E (p+1+(Ak E (p+1) e).length+2) K++[22,p])).length=p+1+(Ak E (p+1) e).length+2+(AH E (p+1+(Ak E (p+1) e).length+2) K).length+2 from by simp;omega];exact Zq c.left.one (fun n i b=>Im v w e (p+1) f n i [] g.1 k Y b) (fun n i b=>OO v w z K _ f n i g.2 k aa b) ap ab (Ip z e) (NA z K) _ s q (by omega) o
 |.block F,p,f,s,q,g,k,c,o=>by rw[E5] at g;rw[AH] at c⊢;rw[Cr];exact QL v w z F p f s q g k c o
 |.write y,p,f,s,q,g,k,c,o=>by
  rw[E5] at g;rw[AH] at c⊢;rw[Cr];have b:=Ky o c.left.left.one;by_cases h:(s.unit B).stop.isSome=true
  ·rw[Ag h];exact b.stopped h
  rw[Ae h];refine b.bind h fun i b=> ?_;have a:=Im v w y (p+1) f (s.unit B) i [] g k c.left.right b;by_cases j:(AB call y (s.unit B)).2.stop.isSome=true
  ·rw[Ag j];exact a.stopped j
  rw[Ae j];refine a.bind j fun u a=> ?_;generalize(AB call y (s.unit B)).2=m at*;generalize(AB call y (s.unit B)).1=x at*;have P:=(c.right.at (q:=p+1+(Ak E (p+1) y).length) (by simp;omega)).one;obtain⟨a4,a5⟩:=Lg a;have t:CP W B u=some (if u.out.length=60 then({u with pc:=u.pc+1,stack:=f.S++(m.here.map (·.2)++f.extra)++[]}:MS).end_ 12 else{u with pc:=u.pc+1,stack:=f.S++(m.here.map (·.2)++f.extra)++[],out:=u.out++[x]}):=by unfold CP;rw[a.pc,P];simp only[a4,I3,a5]
  have a7:=a.outs;by_cases ai:60<=m.out.length
  ·rw[Ag ai];rw[Ag (by rw[a.out];omega)] at t;exact BB.dies (c:=12) rfl _ (Cc.one a.over a.small t) rfl a.out a.used
  ·rw[Ae ai];rw[Ae (by rw[a.out];omega)] at t;refine BB.now a.stop _ (Cc.one a.over a.small t) ?_
   have au:B7 B U V f {m with out:=m.out++[x]} {u with pc:=u.pc+1,stack:=f.S++(m.here.map (·.2)++f.extra)++[],out:=u.out++[x]} (p+1+(Ak E (p+1) y).length+1) []:=
    ⟨by show u.pc+1=_;rw[a.pc],rfl,a.base,a.calls,a.places,a.input,by show u.out++[x]=m.out++[x];rw[a.out],a.used,a.over,a.stop,a.lid,by simp;omega,a.shape,a.names,B6 _,a.deep⟩
   exact au.at (by simp;omega)
 |.read N af,p,f,s,q,g,k,c,o=>by
  rw[E5] at g;rw[AH] at c⊢;rw[Cr];have b:=Ky o c.left.left.one;by_cases h:(s.unit B).stop.isSome=true
  ·rw[Ag h];exact b.stopped h
  rw[Ae h];refine b.bind h fun i b=> ?_;generalize s.unit B=n at*;have an:W[p+1]? =some 29:=c.left.right.one
  have t:CP W B i=some (match i.input with
   |[]=>({i with pc:=i.pc+1}:MS).end_ 11
   |x::T=>{i with pc:=i.pc+1,stack:=i.stack++[x],input:=T}):=by
   unfold CP;rw[b.pc,an];rfl
  rw[b.input] at t;cases aj:n.input with
  |nil=>
   rw[aj] at t;exact BB.dies (c:=11) rfl _ (Cc.one b.over b.small t) rfl b.out b.used
  |cons x T=>
   rw[aj] at t
   have a:B7 B U V f {n with input:=T} {i with pc:=i.pc+1,stack:=i.stack++[x],input:=T} (p+1+1) ([]++[x]):=
    ⟨by show i.pc+1=_;rw[b.pc],by show i.stack++[x]=_;rw[b.stack];simp,b.base,b.calls,b.places,rfl,b.out,b.used,b.over,b.stop,b.lid,b.outs,b.shape,b.names,by simp,b.deep⟩
   obtain⟨M,ag,r⟩:=Zr a g c.right;refine BB.now r.stop M ((Cc.one b.over b.small t).trans ag) ?_;rw[AG,AG,<-Gz,<-Gz];exact r
theorem QL(v:NI W B E U V X call d)(w:(U.map (·.2)).sum<=1000000)(z:Jw call): ∀(F:List St)(p:Nat)(f:DC)(s:RS)(q:MS),Kq E U V X F->f.calls.length=d->C6 W p (Bt E p F)->B7 B U V f s q p []->
 BB W B q (Dp B call F s) (fun S=>B7 B U V f (Dp B call F s) S (p+(Bt E p F).length) [])
 |[],p,f,s,q,_,_,_,o=>by rw[Bt,Dp];exact BB.now o.stop q (.refl _) o
 |J::F,p,f,s,q,g,k,c,o=>by
  rw[Kq] at g;rw[Bt] at c⊢;rw[Dp];have b:=OO v w z J p f s q g.1 k c.left o;by_cases h:(Cr B call J s).stop.isSome=true
  ·rw[Ag h];exact b.stopped h
  ·rw[Ae h];refine b.bind h fun i b=> ?_;rw[AG,<-Gz];exact QL v w z F _ f _ i g.2 k c.right b
end
end
def Gi(b:Bool)(a:Ro):List Af:=a.cells++if a.own b then[a.name.1] else[]
def I8(a:Bool)(b:Ro):List Int:=if a&& !b.own a then[0] else[]
theorem Ab2(c:Bool)(b:Ro)(d:List Int):(b.enter c d).map (·.1)=Gi c b:=by
 unfold Ro.enter Gi;rw[E6,Mn]
 congr 1
 ·have:((fun a:Af×Int=>a.1)∘fun a:Af×Nat=>(a.1,d.getD a.2 0))=fun a=>a.1:=rfl;rw[this];exact List.zipIdx_map_fst 0 b.cells
 ·split<;>rfl
theorem Wf(c:List Int): ∀(a:Nat)(b:List Af),(b.zipIdx a).map (fun e=>c.getD e.2 0)=((c.drop a)++List.replicate b.length 0).take b.length
 |a,[]=>by simp
 |a,f::b=>by
  rw[List.zipIdx_cons,Mm,Wf c (a+1) b];by_cases d:a<c.length
  ·rw[NN d,IZ,Bg,EN]
   congr 1
   ·simp[List.getD,d]
   ·rw[UD,<-DO];exact(UF (by simp)).symm
  ·rw[Rk (by omega),Rk (by omega),Hl,Hl,Bg];simp[List.getD,NQ (show c.length<=a by omega),List.replicate_succ]
theorem Vm(a:Ro):a.cells.length=a.params.length+a.locals.length:=by unfold Ro.cells;simp
theorem Ab3(d:Bool)(a:Ro)(b:List Int)(f:b.length=a.params.length):(a.enter d b).map (·.2)++I8 d a=b++List.replicate (a.locals.length+if d then 1 else 0) 0:=by
 unfold Ro.enter I8
 have e:(a.cells.zipIdx.map fun c=>(c.1,b.getD c.2 0)).map (fun c:Af×Int=>c.2)=b++List.replicate a.locals.length 0:=by
  rw[Mn];show a.cells.zipIdx.map (fun c=>b.getD c.2 0)=_;rw[Wf b 0 a.cells,List.drop_zero,Vm,List.take_append,I1 (by omega),List.take_replicate]
  congr 2
  omega
 rw[E6,e];cases d
 ·have:a.own false=false:=rfl;simp[this]
 ·cases a.own true<;>simp[UD]
def Jo(b:Bool)(c:Af->Nat×Nat)(a:Ro)(p:Nat):List Nat:=
 if b then[1]++[25,a.locals.length+1]++Bt (CT b c a) (p+3) a.body++[27,a.cells.length]
 else[25,a.locals.length]++Bt (CT b c a) (p+2) a.body++[26]
section
variable(W:List Nat)(G:List Gl)(U:List A8)(O:Af->Nat)
def LZ(E:CE)(c:Bool)(a:Af)(many:Nat):Prop:= ∃b,DL G a=some (c,b)/\b.params.length=many/\(E.g a).1=O a
def UR:Prop:= ∀d b a,DL G d=some (b,a)-> ∃c,C6 W (O d) (Jo b c a (O d))/\Kq (CT b c a) U (Gi b a) (LZ G O (CT b c a)) a.body
end
section
variable{W:List Nat}{B:Nat}{G:List Gl}{U:List A8}{O:Af->Nat}
theorem AgQ{b:Bool}{r:Ro}{c:List (Af×Int)}(e:b=true)(a:c.length=(Gi b r).length):(c.map (·.2)++I8 b r)[r.cells.length]? =some (r.result b c):=by
 subst e;unfold Gi at a;unfold I8 Ro.result;cases d:r.own true
 ·rw[d] at a;simp at a;rw[CS (by simp;omega)];simp[a]
 ·rw[d] at a;simp at a;rw[CR (by simp;omega)];simp[List.getD,show r.cells.length<c.length by omega]
theorem AbW{b c a p d:Nat}(f:b+c<=(a+1)*10000+p)(h:p<d)(g:d<=5000):b+(c+0)<=(a+1+1)*10000:=by rw[UM (a+1) 10000];generalize(a+1)*10000=e at*;omega
theorem AbV{c b d a p e f:Nat}(h:c+b<=(a+1)*10000+p)(l:p<e)(k:e<=5000)(i:b+d<=700)(j:f<=b+d+2):c+f<=(a+1+1)*10000:=by rw[UM (a+1) 10000];generalize(a+1)*10000=g at*;omega
theorem Zp(ag:(U.map (·.2)).sum<=1000000)(P:W.length<=5000)(ac: ∀k b a,DL G k=some (b,a)->a.params.length+a.locals.length<=700)(af:UR W G U O): ∀(n d:Nat)(E:CE)(V:List Af),d+n=30->NI W B E U V (LZ G O E) (Ef B G n) d
 |0,d,E,V,az,b,k,i,c,s,o,p,w,ao,D,R,e=>by
  obtain⟨z,I,J⟩:=R.three;have X:CP W B o=some (({o with pc:=p+3}:MS).end_ 13):=by unfold CP;rw[e.pc,z];simp only[I,J,Iv];rw[Ag (by rw[e.calls,D];omega)]
  rw[Ef];exact BB.dies (c:=13) rfl _ (Cc.one e.over e.small X) rfl e.out e.used
 |n+1,d,E,V,az,b,k,i,c,s,o,p,w,ao,D,R,e=>by
  obtain⟨a,T,a0,ay⟩:=ao;obtain⟨A,h,a3⟩:=af k b a T;obtain⟨z,I,J⟩:=R.three;have Z:o.stack=(c.S++(s.here.map (·.2)++c.extra)++w)++i:=by rw[e.stack];simp
  generalize ad:c.S++(s.here.map (·.2)++c.extra)++w=j at*
  have X:CP W B o=some {o with pc:=O k,calls:=c.calls++[(p+3,c.S.length)],base:=j.length}:=by
   unfold CP;rw[e.pc,z];simp only[I,J,Iv];rw[Ae (by rw[e.calls,D];omega),Ag (by rw[Z];simp),e.calls,e.base,ay]
   congr 2
   rw[Z];simp
  have ap:p<W.length:=(BH.1 z).1
  have ae:j.length+a.params.length<=(c.calls.length+1)*10000+p:=by
   have v:=e.lim;have g:=e.deep;have C:s.here.length=V.length:=by rw[<-e.names,BF]
   rw[AG] at v;rw[<-ad];simp only[AG,BF];omega
  have a6:=ac k b a T;have a4:=Cc.one e.over e.small X;generalize a1:({o with pc:=O k,calls:=c.calls++[(p+3,c.S.length)],base:=j.length}:MS)=aa at*;have au:((a.params.map (·.1)).zip i).map (·.2)=i:=by rw[List.map_snd_zip];simp;omega
  have v:B7 B U ((a.params.map (·.1))) ⟨j,[],c.calls++[(p+3,c.S.length)]⟩ {s with here:=(a.params.map (·.1)).zip i} aa (O k) []:=by
   rw[<-a1];refine⟨rfl,?_,rfl,rfl,e.places,e.input,e.out,e.used,e.over,e.stop,e.lid,e.outs,e.shape,?_,B6 _,?_⟩
   ·show o.stack=j++(((a.params.map (·.1)).zip i).map (·.2)++[])++[];rw[au,Z];simp
   ·show((a.params.map (·.1)).zip i).map (·.1)=_;rw[List.map_fst_zip];simp;omega
   ·have u:(a.params.map (·.1)).length=a.params.length:=BF _;have M:(c.calls++[(p+3,c.S.length)]).length=c.calls.length+1:=by simp
    show j.length+((a.params.map (·.1)).length+([]:List Int).length)<=((c.calls++[(p+3,c.S.length)]).length+1)*10000;rw[u,M,Bm];exact AbW ae ap P
  rw[Ef,T];refine BB.after a4 ?_
  have a9: ∀(F:MS->Prop)(ab:RS),(b&&(s.unit B).stop.isSome)=false->(∀m,B7 B U ((a.params.map (·.1))) ⟨j,[],c.calls++[(p+3,c.S.length)]⟩ {(if b then s.unit B else s) with here:=(a.params.map (·.1)).zip i} m (O k+if b then 1 else 0) []->BB W B m ab F)->BB W B aa ab F:=by
   intro F ab q am;cases b with
   |false=>exact am aa v
   |true=>
    have g:=Ky v (by unfold Jo at h;rw[Ag rfl] at h;exact h.left.left.left.one);have L:({s with here:=(a.params.map (·.1)).zip i}:RS).unit B={s.unit B with here:=(a.params.map (·.1)).zip i}:=by unfold RS.unit;simp only;split<;>rfl
    rw[L] at g;exact g.bind (by simpa using q) fun m C=>am m C
  cases al:(b&&(s.unit B).stop.isSome) with
  |true=>
   rw[Ag rfl];have q:b=true:=by cases b<;>simp_all
   subst q;have g:=Ky v (by unfold Jo at h;rw[Ag rfl] at h;exact h.left.left.left.one);have L:({s with here:=(a.params.map (·.1)).zip i}:RS).unit B={s.unit B with here:=(a.params.map (·.1)).zip i}:=by unfold RS.unit;simp only;split<;>rfl
   rw[L] at g;have aq:(s.unit B).stop.isSome=true:=by simpa using al
   refine⟨fun N=> ?_,fun H S=> ?_⟩
   ·have:(s.unit B).stop=none:=N;rw[this] at aq;cases aq
   ·exact g.2 H S
  |false=>
   rw[Ae (by simp)];refine a9 _ _ al fun m g=> ?_;simp only;generalize a7:(if b=true then s.unit B else s)=x at*
   have bd:x.here=s.here:=by rw[<-a7];split
                             ·unfold RS.unit;split<;>rfl
                             ·rfl
   have aw:C6 W (O k+if b then 1 else 0) [25,a.locals.length+if b then 1 else 0]:=by
    unfold Jo at h;cases b
    ·rw[Ae (by simp)] at h;exact h.left.left
    ·rw[Ag rfl] at h;exact h.left.left.right
   have av:C6 W (O k+(if b then 1 else 0)+2) (Bt (CT b A a) (O k+(if b then 1 else 0)+2) a.body):=by
    unfold Jo at h;cases b
    ·rw[Ae (by simp)] at h;exact h.left.right
    ·rw[Ag rfl] at h;exact h.left.right
   have K:C6 W (O k+(if b then 1 else 0)+2+(Bt (CT b A a) (O k+(if b then 1 else 0)+2) a.body).length) (if b then[27,a.cells.length] else[26]):=by
    unfold Jo at h;cases b
    ·rw[Ae (by simp)] at h;have:=h.right;rw[AG,<-Gz] at this;exact this
    ·rw[Ag rfl] at h;have:=h.right;rw[AG,<-Gz] at this;exact this
   obtain⟨ax,u⟩:=aw.two;have a8:CP W B m=some {m with pc:=O k+(if b then 1 else 0)+2,stack:=m.stack++List.replicate (a.locals.length+if b then 1 else 0) 0}:=by unfold CP;rw[g.pc,ax];simp only[u,I3]
   refine BB.after (Cc.one g.over g.small a8) ?_
   have C:B7 B U (Gi b a) ⟨j,I8 b a,c.calls++[(p+3,c.S.length)]⟩ {x with here:=a.enter b i} {m with pc:=O k+(if b then 1 else 0)+2,stack:=m.stack++List.replicate (a.locals.length+if b then 1 else 0) 0} (O k+(if b then 1 else 0)+2) []:=by
    refine⟨rfl,?_,g.base,g.calls,g.places,g.input,g.out,g.used,g.over,g.stop,g.lid,g.outs,g.shape,Ab2 b a i,B6 _,?_⟩;rotate_left
    ·show j.length+((Gi b a).length+(I8 b a).length)<=((c.calls++[(p+3,c.S.length)]).length+1)*10000;have u:(Gi b a).length+(I8 b a).length<=a.params.length+a.locals.length+2:=by unfold Gi I8;rw[AG,Vm];split<;>split<;>simp
     have M:(c.calls++[(p+3,c.S.length)]).length=c.calls.length+1:=by simp
     rw[M];exact AbV ae ap P a6 u
    show m.stack++_=j++((a.enter b i).map (·.2)++I8 b a)++[];rw[Ab3 b a i a0.symm,g.stack];show j++(((a.params.map (·.1)).zip i).map (·.2)++[])++[]++_=_;rw[au];simp
   have f:=QL (Zp ag P ac af n (d+1) (CT b A a) (Gi b a) (by omega)) ag (PV B G n) a.body _ ⟨j,I8 b a,c.calls++[(p+3,c.S.length)]⟩ _ _ a3 (by simp[D]) av C;by_cases r:(Dp B (Ef B G n) a.body {x with here:=a.enter b i}).stop.isSome=true
   ·refine⟨fun N=> ?_,fun H S=>f.2 H S⟩;have:(Dp B (Ef B G n) a.body {x with here:=a.enter b i}).stop=none:=N;rw[this] at r;cases r
   ·refine f.bind r fun l f=> ?_;generalize Dp B (Ef B G n) a.body {x with here:=a.enter b i}=y at*;generalize(O k+(if b then 1 else 0)+2+(Bt (CT b A a) (O k+(if b then 1 else 0)+2) a.body).length)=bf at K f;have Q:l.base=j.length:=f.base;have r:l.stack=j++(y.here.map (·.2)++I8 b a):=by rw[f.stack];simp
    have ai:l.calls=c.calls++[(p+3,c.S.length)]:=f.calls;have an:l.calls.getLast?=some (p+3,c.S.length):=by rw[ai];simp
    have aj:l.calls.dropLast=c.calls:=by rw[ai];simp
    have ar:l.stack.take l.base=j:=by rw[Q,r,UG]
    have ah:l.base<=l.stack.length:=by rw[Q,r];simp
    have ak: ∀t:List Int,t.length<=1->B7 B U V c {y with here:=s.here} {l with pc:=p+3,base:=c.S.length,calls:=c.calls,stack:=j++t} (p+3) (w++t):=by intro t be;refine⟨rfl,?_,rfl,rfl,f.places,f.input,f.out,f.used,f.over,f.stop,f.lid,f.outs,f.shape,e.names,by have:=e.lim;rw[AG] at this⊢;omega,e.deep⟩;show j++t=c.S++(s.here.map (·.2)++c.extra)++(w++t);rw[<-ad];simp
    have a2:y.here.length=(Gi b a).length:=by rw[<-f.names,BF]
    cases q:b with
    |false=>
     subst q;have Y:CP W B l=some {l with pc:=p+3,base:=c.S.length,calls:=c.calls,stack:=j++[]}:=by unfold CP;rw[f.pc,K.one];simp only[an,Iv,Ag ah,aj,ar,IY]
     exact BB.now f.stop _ (Cc.one f.over f.small Y) (ak [] (by simp))
    |true=>
     have a5:=AgQ (r:=a) q a2;subst q;obtain⟨bb,bc⟩:=K.two;have ba:l.stack[l.base+a.cells.length]? =some (a.result true y.here):=by rw[Q,r,CS (by omega),Jy];exact a5
     have Y:CP W B l=some {l with pc:=p+3,base:=c.S.length,calls:=c.calls,stack:=j++[a.result true y.here]}:=by unfold CP;rw[f.pc,bb];simp only[bc,Iv,ba,an,Ag ah,aj,ar]
     exact BB.now f.stop _ (Cc.one f.over f.small Y) (ak _ (by simp))
end
