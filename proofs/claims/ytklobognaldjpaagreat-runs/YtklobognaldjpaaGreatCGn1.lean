/- Plain: no word of the code is great. The machine: whatever s -/
import Derived.Test.YtklobognaldjpaaGreatCSim9
import Derived.Test.YtklobognaldjpaaGreatCMs8
import Derived.Deep.LoopGhost
set_option maxRecDepth 1000000
set_option maxHeartbeats 2000000
namespace Go.Proofs.YtklobognaldjpaaGreat
open Go.Proofs.Tryz
def DA(a:List Nat):Prop:= ∀b∈a,b<=2147483647
theorem DA.append{b c:List Nat}(e:DA b)(f:DA c):DA (b++c):=fun d g=>by
 rcases BD.1 g with a|a
 ·exact e d a
 ·exact f d a
theorem DA.nil:DA []:=fun b a=>by cases a
theorem DA.cons{b:Nat}{c:List Nat}(d:b<=2147483647)(e:DA c):DA (b::c):=fun g f=>by
 rcases C0.1 f with a|a
 ·rw[a];exact d
 ·exact e g a
theorem DA.one{a:Nat}(b:a<=2147483647):DA [a]:=.cons b .nil
theorem DA.two{a b:Nat}(c:a<=2147483647)(d:b<=2147483647):DA [a,b]:=.cons c (.one d)
theorem DA.three{a b c:Nat}(d:a<=2147483647)(e:b<=2147483647)(f:c<=2147483647):DA [a,b,c]:=.cons d (.two e f)
structure EB(E:CE):Prop where
 g1: ∀n,(E.g n).1<=2147483647
 g2: ∀n,(E.g n).2<=2147483647
 l: ∀n k,E.l n=some k->k<=2147483647
 n:E.n<=2147483647
theorem Abo{b:CE}(c:EB b)(a:Af):DA (b.get a):=by
 unfold CE.get;split
 ·rename_i d e;exact .two (by omega) (c.l a d e)
 ·exact .two (by omega) (c.g1 a)
theorem Va{c:CE}(a:EB c)(b:Af):DA (c.set b):=by
 unfold CE.set;split
 ·rename_i d e;exact .two (by omega) (a.l b d e)
 ·split
  ·exact .two (by omega) a.n
  ·exact .two (by omega) (a.g1 b)
theorem AfF(op:Af):Ij op<=2147483647:=by have:=YA op;omega
theorem AiX(op:Af):Jt op<=2147483647:=by unfold Jt;split<;>omega
mutual
theorem GI{e:CE}(c:EB e): ∀(g:Ex)(p:Nat),B0 g->p+(Ak e p g).length<=1000000->DA (Ak e p g)
 |.nil,p,a,_=>by rw[B0] at a;exact a.elim
 |.num m,p,a,_=>by rw[B0] at a;rw[Ak];exact .two (by omega) a
 |.var f _,p,_,_=>by rw[Ak];exact Abo c f
 |.elem f _ l,p,a,b=>by rw[B0] at a;rw[Ak] at b⊢;simp only[AG,Bg,Bm] at b;exact((GI c l p a.2 (by omega)).append (.three (by omega) (c.g1 f) (c.g2 f))).append (.one (by omega))
 |.call f _ args,p,a,b=>by rw[B0] at a;rw[Ak] at b⊢;simp only[AG,Bg,Bm] at b;exact(RO c args p a.2.2 (by omega)).append (.three (by omega) (c.g1 f) (by have:=a.2.1;omega))
 |.bin op d j,p,a,b=>by
  rw[B0] at a;rw[Ak] at b⊢;split at b
  ·rename_i h;rw[Ag h];simp only[AG,Bg,Bm] at b;exact(((((GI c d p a.1 (by omega)).append (.two (by omega) (by omega))).append (GI c j _ a.2 (by omega))).append (.one (by omega))).append (.two (by omega) (by omega))).append (.two (by omega) (by omega))
  ·rename_i h;rw[Ae h];split at b
   ·rename_i i;rw[Ag i];simp only[AG,Bg,Bm] at b;exact(((((GI c d p a.1 (by omega)).append (.two (by omega) (by omega))).append (.two (by omega) (by omega))).append (.two (by omega) (by omega))).append (GI c j _ a.2 (by omega))).append (.one (by omega))
   ·rename_i i;rw[Ae i];simp only[AG,Bg,Bm] at b;exact((GI c d p a.1 (by omega)).append (GI c j _ a.2 (by omega))).append (.one (AfF op))
 |.un op g,p,a,b=>by rw[B0] at a;rw[Ak] at b⊢;simp only[AG,Bg,Bm] at b;exact(GI c g p a (by omega)).append (.one (AiX op))
theorem RO{e:CE}(c:EB e): ∀(d:List Ex)(p:Nat),E9 d->p+(CQ e p d).length<=1000000->DA (CQ e p d)
 |[],p,_,_=>by rw[CQ];exact .nil
 |k::d,p,a,b=>by rw[E9] at a;rw[CQ] at b⊢;rw[AG] at b;exact(GI c k p a.1 (by omega)).append (RO c d _ a.2 (by omega))
end
mutual
theorem N5{e:CE}(c:EB e): ∀(s:St)(p:Nat),BS s->p+(AH e p s).length<=1000000->DA (AH e p s)
 |.nil,p,a,_=>by rw[BS] at a;exact a.elim
 |.assign d _ g,p,a,b=>by rw[BS] at a;rw[AH] at b⊢;simp only[AG,Bg,Bm] at b;exact(DA.append (.one (by omega)) (GI c g _ a.2 (by omega))).append (Va c d)
 |.put d _ n g,p,a,b=>by rw[BS] at a;rw[AH] at b⊢;simp only[AG,Bg,Bm] at b;exact((DA.append (.one (by omega)) ((GI c n _ a.2.1 (by omega)).append (.three (by omega) (c.g1 d) (c.g2 d)))).append (GI c g _ a.2.2 (by omega))).append (.one (by omega))
 |.proc d _ args,p,a,b=>by rw[BS] at a;rw[AH] at b⊢;simp only[AG,Bg,Bm] at b;exact DA.append (.one (by omega)) ((RO c args _ a.2.2 (by omega)).append (.three (by omega) (c.g1 d) (by have:=a.2.1;omega)))
 |.ite h j m,p,a,b=>by
  rw[BS] at a;rw[AH] at b⊢;split at b
  ·rename_i i;rw[Ag i];simp only[AG,Bg,Bm] at b;exact DA.append (.one (by omega)) (((GI c h _ a.1 (by omega)).append (.two (by omega) (by omega))).append (N5 c j _ a.2.1 (by omega)))
  ·rename_i i;rw[Ae i];simp only[AG,Bg,Bm] at b;exact DA.append (.one (by omega)) (((((GI c h _ a.1 (by omega)).append (.two (by omega) (by omega))).append (N5 c j _ a.2.1 (by omega))).append (.two (by omega) (by omega))).append (N5 c m _ (a.2.2.resolve_left (by simpa using i)) (by omega)))
 |.loop h l,p,a,b=>by rw[BS] at a;rw[AH] at b⊢;simp only[AG,Bg,Bm] at b;exact DA.append (.one (by omega)) ((((GI c h _ a.1 (by omega)).append (.two (by omega) (by omega))).append (N5 c l _ a.2 (by omega))).append (.two (by omega) (by omega)))
 |.block f,p,a,b=>by rw[BS] at a;rw[AH] at b⊢;exact N6 c f p a.2 b
 |.write g,p,a,b=>by rw[BS] at a;rw[AH] at b⊢;simp only[AG,Bg,Bm] at b;exact(DA.append (.one (by omega)) (GI c g _ a (by omega))).append (.one (by omega))
 |.read d _,p,_,_=>by rw[AH];exact(DA.append (.one (by omega)) (.one (by omega))).append (Va c d)
theorem N6{e:CE}(c:EB e): ∀(f:List St)(p:Nat),DI f->p+(Bt e p f).length<=1000000->DA (Bt e p f)
 |[],p,_,_=>by rw[Bt];exact .nil
 |k::f,p,a,b=>by rw[DI] at a;rw[Bt] at b⊢;rw[AG] at b;exact(N5 c k p a.1 (by omega)).append (N6 c f _ a.2 (by omega))
end
structure CB(c:CG):Prop where
 w:DA c.words
 g1: ∀n,(c.g n).1<=2147483647
 g2: ∀n,(c.g n).2<=2147483647
theorem Qy{b:Af->Nat×Nat}{n:Af}{x:Nat×Nat}(d: ∀n,(b n).1<=2147483647)(e: ∀n,(b n).2<=2147483647)(c:x.1<=2147483647/\x.2<=2147483647):(∀a,(B9 b n x a).1<=2147483647)/\(∀a,(B9 b n x a).2<=2147483647):=by
 refine⟨fun a=> ?_,fun a=> ?_⟩<;>unfold B9<;>split
 ·exact c.1
 ·exact d a
 ·exact c.2
 ·exact e a
theorem VJ{d:Bool}{c:Af->Nat×Nat}{a:Ro}(e: ∀b,(c b).1<=2147483647)(f: ∀b,(c b).2<=2147483647)(j:a.params.length+a.locals.length<=700):EB (CT d c a):=by
 have i:a.cells.length=a.params.length+a.locals.length:=by unfold Ro.cells;simp
 refine⟨e,f,fun b h g=> ?_,?_⟩
 ·have:=JF (show a.cells.findIdx? _=some h from g);omega
 ·show a.cells.length<=_;omega
theorem Abp{g:List Az}(q:g.length<=601){b:CG}{f:Gl}(c:CB b)(h:J3 g f)(n: ∀e p s i,f=.arr e p s i->s<=20)(r:b.places<=1000000)(l:(Dj b f).words.length<=1000000):CB (Dj b f):=by
 cases f with
 |var e p=>
  have:=Qy (n:=e) (x:=(b.places,1)) c.g1 c.g2 ⟨by simp only;omega,by simp⟩;exact⟨c.w,this.1,this.2⟩
 |arr e p s i=>
  have:=n e p s i rfl;have:=Qy (n:=e) (x:=(b.places,s)) c.g1 c.g2 ⟨by simp only;omega,by simp only;omega⟩;exact⟨c.w,this.1,this.2⟩
 |proc a=>
  have m:a.params.length+a.locals.length<=g.length:=h.2;have k:MA a:=h.1;have j:(b.words++[25,a.locals.length]++Bt (CT false (B9 b.g a.name.1 (b.words.length,0)) a) (b.words.length+2) a.body++[26]).length<=1000000:=l;simp only[AG,Bg,Bm] at j;have d:=Qy (n:=a.name.1) (x:=(b.words.length,0)) c.g1 c.g2 ⟨by simp only;omega,by simp⟩;refine⟨?_,d.1,d.2⟩;exact((c.w.append (.two (by omega) (by omega))).append (N6 (VJ d.1 d.2 (by omega)) a.body _ k.body.2 (by omega))).append (.one (by omega))
 |func a=>
  have m:a.params.length+a.locals.length<=g.length:=h.2;have k:MA a:=h.1;have j:(b.words++[1]++[25,a.locals.length+1]++Bt (CT true (B9 b.g a.name.1 (b.words.length,0)) a) (b.words.length+3) a.body++[27,a.cells.length]).length<=1000000:=l;simp only[AG,Bg,Bm] at j;have d:=Qy (n:=a.name.1) (x:=(b.words.length,0)) c.g1 c.g2 ⟨by simp only;omega,by simp⟩;have o:a.cells.length=a.params.length+a.locals.length:=by unfold Ro.cells;simp
  refine⟨?_,d.1,d.2⟩;exact(((c.w.append (.one (by omega))).append (.two (by omega) (by omega))).append (N6 (VJ d.1 d.2 (by omega)) a.body _ k.body.2 (by omega))).append (.two (by omega) (by omega))
theorem YG(a:List Gl)(c: ∀e∈a,Gf e<=20)(f:a.length<=601): ∀b,b<=a.length->(A3 a b).places<=20*b
 |0,_=>by unfold A3;rw[Eo];show 0<=_;omega
 |b+1,g=>by
  have h:=YG a c f b (by omega);rw[LA (by omega),N8];have d:a.getD b Cm=a[b]'(by omega):=by simp[List.getD,show b<a.length by omega]
  have:=c (a.getD b Cm) (by rw[d];exact D4 _);simp only;omega
theorem U9{g:List Az}{p:Pr}(e:Mu g p)(u:g.length<=601)(i:D7 ⟨[],[],none,false⟩ p=none)(j:(BI p).1.length<=5000):
 DA (BI p).1/\ ∀a,a<=p.globals.length->(A3 p.globals a).places<=1000000:=by
 unfold D7 at i;obtain⟨B,K⟩:=Bq i;obtain⟨F,G,H,r⟩:=Tn p.globals _ B rfl rfl;have J:=e.len
 have m: ∀c∈p.globals,Gf c<=20:=by
  intro c x;obtain⟨a,b,rfl⟩:=Rs x;have:=(r a p.globals[a] (Bb b)).2;generalize p.globals[a]=c at*;cases c with
  |var f n=>simp[Gf]
  |arr f n s o=>exact this.2
  |proc C=>simp[Gf]
  |func C=>simp[Gf]
 have l:=YG p.globals m (by omega)
 have z: ∀a,a<=p.globals.length->(A3 p.globals a).words.length<=(BI p).1.length:=fun a b=>by
  obtain⟨D,y⟩:=PA (G:=p.globals) (i:=a) p.globals.length b (AA _);have E:(A3 p.globals p.globals.length).words.length=(A3 p.globals a).words.length+D.length:=by rw[y];simp
  have h:(BI p).1.length=(A3 p.globals p.globals.length).words.length+(Bt (Fc (A3 p.globals p.globals.length)) (A3 p.globals p.globals.length).words.length p.body).length+1:=by unfold BI A3;rw[E7,AG,AG];rfl
  omega
 have v: ∀a,a<=p.globals.length->CB (A3 p.globals a):=by
  intro a;induction a with
  |zero=>intro _;unfold A3;rw[Eo];exact⟨.nil,fun _=>B6 _,fun _=>B6 _⟩
  |succ a A=>
   intro b;have q:p.globals.getD a Cm=p.globals[a]'(by omega):=by simp[List.getD,show a<p.globals.length by omega]
   have k:p.globals.getD a Cm∈p.globals:=by rw[q];exact D4 _
   have t:=z (a+1) b;have I:=l a (by omega);rw[LA (by omega)] at t⊢;exact Abp u (A (by omega)) (e.globals _ k) (fun f n s o w=>by have:=m _ k;rw[w] at this;exact this) (by omega) (by omega)
 refine⟨?_,fun a b=>by have:=l a b;omega⟩;have d:=v p.globals.length (AA _);have h:(BI p).1=(A3 p.globals p.globals.length).words++Bt (Fc (A3 p.globals p.globals.length)) (A3 p.globals p.globals.length).words.length p.body++[0]:=by unfold BI A3;rw[E7]
 rw[h] at j⊢;simp only[AG,Bg,Bm] at j;exact(d.w.append (N6 ⟨d.g1,d.g2,(fun f a b=>by cases b),B6 _⟩ p.body _ e.body.2 (by omega))).append (.one (by omega))
open Go.RowKit
section
variable{xb wb wc fuel limit:Nat}{W:List Nat}{Q:AW}{w U w1:World}{m:MS}{waits:Bool}{R:MR}{vi:Value}
theorem AhS(c:MC xb wb wc W Q w m fuel limit waits R vi)(d:W.length<=1000000)(C:DA W)(f:m.stack.length<=1000000){u:MS}(a:CP W fuel m=some u)(D:u.stack.length<=1000000)(G:m.used<=1000000)(H:W[m.pc]? =some 1->m.used≠fuel->m.used≠limit):
 Ah 73 #[Al xb] w (DV xb wb wc W Q fuel limit waits R w u):=by
 unfold CP at a;split at a
 ·cases a
 ·rename_i b;cases a;exact AhW c d b
 ·rename_i b;cases a;by_cases n:m.used=fuel
  ·rw[Ag n];exact Aii c d b n
  ·rw[Ae n];exact Aij c d b n (H b n) G
 ·rename_i b;obtain⟨k,g,rfl⟩:=D5.1 a;exact Aib c d f b g
 ·rename_i b;obtain⟨j,e,a⟩:=C7.1 a;obtain⟨k,g,rfl⟩:=D5.1 a;exact AhZ c d f b e g
 ·rename_i b;obtain⟨j,e,a⟩:=C7.1 a;obtain⟨i,h,a⟩:=C7.1 a;split at a
  ·rename_i r;cases a;exact Aie c d f b e h r
  ·cases a
 ·rename_i b;obtain⟨j,e,a⟩:=C7.1 a;obtain⟨k,g,rfl⟩:=D5.1 a;exact Ah2 c d f b e g
 ·rename_i b;obtain⟨j,e,a⟩:=C7.1 a;obtain⟨i,h,a⟩:=C7.1 a;split at a
  ·rename_i r;cases a;exact Aih c d f b e h r
  ·cases a
 ·rename_i b;obtain⟨j,e,a⟩:=C7.1 a;obtain⟨y,l,a⟩:=C7.1 a;obtain⟨i,h,rfl⟩:=D5.1 a;exact AhY c d f b e l (C j (Ct e)) h
 ·rename_i b;obtain⟨i,h,a⟩:=C7.1 a;split at a
  ·rename_i B;obtain⟨k,g,rfl⟩:=D5.1 a;obtain⟨o,rfl⟩: ∃o:Nat,i=o:=⟨i.toNat,by omega⟩;exact Ah1 c d f b h (by simpa using g)
  ·cases a
 ·rename_i b;obtain⟨k,g,a⟩:=C7.1 a;obtain⟨i,h,a⟩:=C7.1 a;split at a
  ·rename_i B;cases a;obtain⟨o,rfl⟩: ∃o:Nat,i=o:=⟨i.toNat,by omega⟩;exact Aig c d f b g h (by omega)
  ·cases a
 ·rename_i b;obtain⟨k,g,rfl⟩:=D5.1 a;exact Ah7 c d f b g
 ·rename_i b;obtain⟨k,g,rfl⟩:=D5.1 a;exact Ah8 c d f b g
 ·rename_i b;obtain⟨k,g,rfl⟩:=D5.1 a;exact Ah9 c d f b g
 ·rename_i b;obtain⟨j,e,rfl⟩:=D5.1 a;exact Ah4 c d b e
 ·rename_i b;obtain⟨j,e,a⟩:=C7.1 a;obtain⟨i,h,rfl⟩:=D5.1 a;exact Ail c d f b e h
 ·rename_i b;obtain⟨j,e,a⟩:=C7.1 a;obtain⟨y,l,a⟩:=C7.1 a;split at a
  ·rename_i q;cases a;exact AhU c d b e l q
  ·rename_i q;split at a
   ·rename_i F;cases a;exact AhV c d f b e l q F
   ·cases a
 ·rename_i b;obtain⟨y,l,rfl⟩:=D5.1 a;exact AhX c d b l (by simpa using D)
 ·rename_i b;obtain⟨A,s,a⟩:=C7.1 a;split at a
  ·rename_i E;cases a;exact Ah5 c d f b s E
  ·cases a
 ·rename_i b;obtain⟨j,e,a⟩:=C7.1 a;obtain⟨k,g,a⟩:=C7.1 a;obtain⟨A,s,a⟩:=C7.1 a;split at a
  ·cases a;exact Ah6 c d f b e g s
  ·cases a
 ·rename_i b;obtain⟨i,h,rfl⟩:=D5.1 a;by_cases p:m.out.length=60
  ·rw[Ag p];exact Aim c d f b h p
  ·rw[Ae p];exact Ain c d f b h p
 ·rename_i b;cases a;cases t:m.input with
  |nil=>
   have z:=Aic c d b t;rw[t] at z;exact z
  |cons i K=>exact Aid c d f b t
 ·rename_i op _ _ _ _ _ _ _ _ _ _ _ _ _ _ _ _ _ _ _ _ _ b;split at a
  ·rename_i v;obtain⟨J,I,a⟩:=C7.1 a;obtain⟨i,h,rfl⟩:=D5.1 a;have:=Aia c d f b v.1 v.2 I h;unfold Dx at this;cases x:K0 op i J with
   |some k=>rw[x] at this;exact this
   |none=>rw[x] at this;exact this
  ·cases a
end
inductive KS(W:List Nat)(fuel limit:Nat):Nat->MS->MS->Bool->Prop
 |over (m:MS):m.over.isSome=true->KS W fuel limit 0 m m false
 |wait (m:MS):m.over=none->W[m.pc]? =some 1->m.used≠fuel->m.used=limit->KS W fuel limit 1 m m true
 |step {n:Nat} {m m1 m2:MS} {b:Bool}:m.over=none->(W[m.pc]? =some 1->m.used≠fuel->m.used≠limit)->m.stack.length<=1000000->m1.stack.length<=1000000->m.used<=1000000->CP W fuel m=some m1->KS W fuel limit n m1 m2 b->KS W fuel limit (n+1) m m2 b
section
variable{xb wb wc fuel limit:Nat}{W:List Nat}{Q:AW}{w U w1:World}{m m':MS}{waits:Bool}{R O:MR}{vi:Value}
theorem MM.keeps{k:Nat}(b:MM xb R O w U)(c:k<w.heap.size)(e:k≠xb)(d: ¬R.has k):U.heap[k]? =w.heap[k]? /\ ¬O.has k/\k<U.heap.size:=
 ⟨b.1.block k c (by rintro(a|a);exact e a;exact d a),fun a=>(b.2 k a).elim d (fun f=>by omega),CF c b.1.size⟩
theorem MC.foreign(d:MC xb wb wc W Q w m fuel limit waits R vi){b:Nat}(j:b≠xb)(i: ¬R.has b)(h: ¬Q b)(o:Nat)(f:Value):MC xb wb wc W Q (w.setCell (Ac b o) f) m fuel limit waits R vi:=by
 have c: ∀a,a≠b->(w.setCell (Ac b o) f).heap[a]? =w.heap[a]? :=fun a c=>Below.heap_setCell _ _ _ _ c
 exact⟨d.cel.block (c xb (Ey j)),fun k=>by rw[Cu];exact d.frz k,d.rows.same (by simp[World.setCell]) fun a g=>c a (by
  rintro rfl;rcases g with e|e
  ·exact h e
  ·exact i e)⟩
theorem MM.past(a:MM xb R O w U){b:Nat}(g:w.heap.size<=b)(o:Nat)(f:Value):MM xb R O w (U.setCell (Ac b o) f):=
 ⟨⟨a.1.os,a.1.tape,a.1.output,AT a.1.size (by simp[World.setCell]),fun c d e=>by rw[Below.heap_setCell _ _ _ _ (show c≠b by omega)];exact a.1.block c d e⟩,a.2⟩
def Rf(xb wb wc:Nat)(W:List Nat)(Q:AW)(fuel limit:Nat)(c:Bool)(R:MR)(w:World)(m':MS)(d:Ending)(U:World):Prop:=
 ∃O e a b,O.ou=.slice a m'.out.length b/\d=.returned (.tuple #[.agg #[Aa ((m'.over.getD 0:Nat):Int),.slice a m'.out.length b,Aa (m'.used:Nat)],.bool m'.over.isSome])/\MC xb wb wc W Q U m' fuel limit c O e/\MM xb R O w U
theorem Ac2{h:Bool}{a:Nat}{f:Option Addr}{g:Nat}{wr:World}{i:Value}(j:MC xb wb wc W Q wr m' fuel limit h O i)(k:MM xb R O w wr)(d:w.heap.size<=a)(e:a≠xb)(c: ¬O.has a)(b: ¬Q a)(l:O.ou=.slice f m'.out.length g){x y z:Value}:
 Rf xb wb wc W Q fuel limit h R w m' (.returned (.tuple #[.agg #[Aa ((m'.over.getD 0:Nat):Int),.slice f m'.out.length g,Aa (m'.used:Nat)],.bool m'.over.isSome])) (((wr.drew.setCell (Ac a 0) x).setCell (Ac a 1) y).setCell (Ac a 2) z):=
 ⟨O,i,f,g,l,rfl,(((j.below (Below.refl _ _).drew).foreign e c b 0 x).foreign e c b 1 y).foreign e c b 2 z,(((k.trans (MM.of_below (Below.refl _ _).drew)).past d 0 x).past d 1 y).past d 2 z⟩
theorem Ac3(d:MC xb wb wc W Q w m fuel limit waits R vi)(S:W.length<=1000000)(ao:DA W){units n:Nat}{b:Bool}(r:KS W fuel (m.used+units) n m m' b)(bb:m.used+units<=1000000):
 Ah 49 #[Al xb,Aa (units:Nat)] w (Rf xb wb wc W Q fuel (m.used+units) b R w m'):=by
 have ba:=d.usAt;have a8:=d.liAt;have bc:=d.waAt;have bf:=d.frz 8;have be:=d.frz 13;have H:=d.setLimit (m.used+units);have x:=H.1.setWaits false;have bd:=d.rows.xlt;have P:=d.rows.lt;obtain⟨q,v⟩: ∃q,q=(w.setCell (Ac xb 8) (Aa ((m.used+units:Nat):Int))).setCell (Ac xb 13) (.bool false):=⟨_,rfl⟩;have u:q.heap.size=w.heap.size:=by rw[v];simp[World.setCell]
 rw[<-v] at x;obtain⟨c,f⟩: ∃c,q.alloc (.cells #[Aa 0,Aw,Aa 0] 39)=c:=⟨_,rfl⟩;have D:Ay q c:=f▸AP;have ab:=x.1.below D;have ac:MM xb R R w c:=(H.2.trans x.2).trans (MM.of_below D);have X: ∀o,c.cell? (Ac w.heap.size o)= #[Value.int .i64 0,Aw,Aa 0][o]? :=fun o=>by rw[<-u,<-f];exact Cl _ _ _ o
 have T: ∀o,c.frozen? (Ac w.heap.size o)=false:=fun o=>by rw[<-u,<-f];exact Gc _ _ _ o
 have ar:w.heap.size<c.heap.size:=by rw[<-f,<-u];simp
 rw[v,show((m.used+units:Nat):Int)=(m.used:Int)+(units:Int) by omega] at f;have al:Hid (_=c):=f;have U: ¬Q w.heap.size:=fun h=>by have:=(d.rows.far _ h).1;omega
 have V: ¬R.has w.heap.size:=fun h=>by have:=P _ h;omega
 have aj:Hid (KS W fuel (m.used+units) n m m' b):=r;have ah:Hid (MC xb wb wc W Q c m fuel (m.used+units) false R vi):=ab;have af:Hid (MM xb R R w c):=ac;have ag:Hid (∀{wr:World}{O:MR},MM xb R O c wr->(∀o,wr.cell? (Ac w.heap.size o)= #[Value.int .i64 0,Aw,Aa 0][o]?)/\(∀o,wr.frozen? (Ac w.heap.size o)=false)/\ ¬O.has w.heap.size):=fun{wr O} e=>by obtain⟨K,am,a4⟩:=e.keeps ar (by omega) V;exact⟨fun o=>by rw[World.cell?_of_block (w:=c) K];exact X o,fun o=>by rw[World.frozen?_of_block (w:=c) K];exact T o,am⟩
 have aq:w.heap.size≠xb:=by omega
 have ai:Hid (¬Q w.heap.size):=U;clear H x ab ac r X T f u U V P d D v;go_enter func49,ntmps49;go_wp2;rw[al.out];go_loopg [] n (fun au wr=> ∃(p:MS)(B:MR)(ad:Value)(y:Bool),MC xb wb wc W Q wr p fuel (m.used+units) y B ad/\MM xb R B c wr/\((y=false/\KS W fuel (m.used+units) au p m' b)\/(y=true/\p=m'/\b=true)))
 case atStart=>exact⟨m,R,vi,false,ah.out,MM.refl _ _ _,.inl ⟨rfl,aj.out⟩⟩
 case round=>
  obtain⟨p,B,ad,y,a,e,ap⟩:=hrel;rcases ap with⟨rfl,r⟩|⟨rfl,a9,rfl⟩
  focus
   cases r with
   |over _ G=> ?_
   |wait _ i j k l=>
    have g:=a.ovAt;have L:=a.waAt;rw[i] at g;have HS:=Aik a S j k l;unfold DV at HS;have z:Hid _:=e;clear a e i j k l;go_wp2_with(go_at_call 73;refine HS.mono ?_;rintro h a0⟨rfl,A,I,C,E⟩)
    go_roundg 0
    case measure=>omega
    case rel=>exact⟨m',A,I,true,C,MM.trans z.out E,.inr (by simp)⟩
   | @step av _ aw _ _ i j k l an M N=>
     have g:=a.ovAt;have L:=a.waAt;rw[i] at g;have HS:=AhS a S ao k M l an j;unfold DV at HS;have z:Hid _:=e;have ak:Hid _:=N;clear a e i j k l M N;go_wp2_with(go_at_call 73;refine HS.mono ?_;rintro h a0⟨rfl,A,I,C,E⟩)
     go_roundg av
     case measure=>omega
     case rel=>exact⟨aw,A,I,false,C,MM.trans z.out E,.inl ⟨rfl,ak.out⟩⟩
  rotate_left
  focus
   subst p;cases G:m'.over.isSome
  all_goals
   have a7:=a.coAt;have a6:=a.usAt;have g:=a.ovAt;have L:=a.waAt;obtain⟨Z,aa,F⟩:=GR a.rows.ou;have a5:wr.cell? (Ac xb 10)=some (.slice Z m'.out.length aa):=a.ouAt.trans (by rw[F]);obtain⟨s,t,Y⟩:=ag.out e;have ax:=s 0;have ay:=s 1;have az:=s 2;have bg:=t 0;have bh:=t 1;have bi:=t 2;have J:=fun a1 a2 a3=>Ac2 (x:=a1) (y:=a2) (z:=a3) a (af.out.trans e) (AA _) aq Y ai.out F;have ae:Hid _:=J;clear J F s t Y a e;rw[G] at g;go_wp2;go_region;all_goals go_wp2
   all_goals refine bodyPost_ret (v:=.tuple #[.agg #[Aa ((m'.over.getD 0:Nat):Int),.slice Z m'.out.length aa,Aa (m'.used:Nat)],.bool m'.over.isSome]) (by simp[results,results49,go_sem,ax,ay,az,G]) rfl ?_
   all_goals go_light
   all_goals exact ae.out _ _ _
end
