/- Plain: in a program in whose names nothing is wrong, the mak -/
import Derived.Test.YtklobognaldjpaaGreatCSim6
namespace Go.Proofs.YtklobognaldjpaaGreat
open Go.Proofs.Tryz
theorem LB{a b:Af}:AS a b=true↔a.toList=b.toList:=by unfold AS;simp
theorem Se{a b c:Af}(d:AS a b=true)(e:AS c b=true):AS a c=true:=by rw[LB] at*;rw[d,e]
def BY:Gl->Sy
 |.var n _=>⟨n,0,0⟩
 |.arr n _ _ _=>⟨n,1,0⟩
 |.proc a=>⟨a.name.1,2,a.params.length⟩
 |.func a=>⟨a.name.1,3,a.params.length⟩
structure Lp(env:Ao)(E:CE)(Y:List A8)(O:List Af)(X:Bool->Af->Nat->Prop):Prop where
 var: ∀n,(env.kindIx n).1=0->TI E Y O n
 arr: ∀n,(env.kindIx n).1=1->TF E Y n
 proc: ∀n,(env.kindIx n).1=2->X false n (env.args n)
 func: ∀n,(env.kindIx n).1=3->X true n (env.args n)
 set: ∀n,(env.kindIx n).1=0->OG E Y O n
 res: ∀n,env.isRes n=true->OG E Y O n
section
variable{env:Ao}{E:CE}{Y:List A8}{O:List Af}{X:Bool->Af->Nat->Prop}
theorem O8{n:Af}{p b:Nat}(a:Dz env n p b=none):(env.kindIx n).1=b:=by
 unfold Dz at a;split at a
 ·assumption
 ·cases a
theorem Vk{n:Af}{p b many:Nat}(a:GJ env n p b many=none):(env.kindIx n).1=b/\many=env.args n:=by
 unfold GJ at a;split at a
 ·split at a
  ·exact⟨by assumption,by assumption⟩
  ·cases a
 ·cases a
mutual
theorem Jb(c:Lp env E Y O X): ∀d,AV env d=none->B0 d->EE E Y O X d
 |.nil,_,a=>by rw[B0] at a;exact a.elim
 |.num j,_,a=>by rw[B0] at a;rw[EE];exact a
 |.var n p,b,_=>by rw[AV] at b;rw[EE];exact c.var n (O8 b)
 |.elem n p i,b,a=>by rw[AV] at b;rw[B0] at a;rw[EE];exact⟨c.arr n (O8 (Bq b).1),Jb c i (Bq b).2 a.2⟩
 |.call n p args,b,a=>by rw[AV] at b;rw[B0] at a;rw[EE];obtain⟨f,g⟩:=Vk (Bq b).1;exact⟨by rw[g];exact c.func n f,SY c args (Bq b).2 a.2.2⟩
 |.bin _ e h,b,a=>by rw[AV] at b;rw[B0] at a;rw[EE];exact⟨Jb c e (Bq b).1 a.1,Jb c h (Bq b).2 a.2⟩
 |.un _ d,b,a=>by rw[AV] at b;rw[B0] at a;rw[EE];exact Jb c d b a
theorem SY(c:Lp env E Y O X): ∀e,Cy env e=none->E9 e->La E Y O X e
 |[],_,_=>by rw[La];trivial
 |d::e,b,a=>by rw[Cy] at b;rw[E9] at a;rw[La];exact⟨Jb c d (Bq b).1 a.1,SY c e (Bq b).2 a.2⟩
end
mutual
theorem P5(c:Lp env E Y O X): ∀h,A5 env h=none->BS h->E5 E Y O X h
 |.nil,_,a=>by rw[BS] at a;exact a.elim
 |.assign n p f,b,a=>by
  rw[A5] at b;rw[BS] at a;rw[E5];refine⟨?_,Jb c f (Bq b).2 a.2⟩;have d:=(Bq b).1;unfold GD at d;split at d
  ·exact c.res n (by assumption)
  ·exact c.set n (O8 d)
 |.put n p i f,b,a=>by rw[A5] at b;rw[BS] at a;rw[E5];obtain⟨d,g⟩:=Bq b;obtain⟨k,l⟩:=Bq d;exact⟨c.arr n (O8 k),Jb c i l a.2.1,Jb c f g a.2.2⟩
 |.proc n p args,b,a=>by rw[A5] at b;rw[BS] at a;rw[E5];obtain⟨d,g⟩:=Vk (Bq b).1;exact⟨by rw[g];exact c.proc n d,SY c args (Bq b).2 a.2.2⟩
 |.ite j h r,b,a=>by
  rw[A5] at b;rw[BS] at a;rw[E5];obtain⟨d,g⟩:=Bq b;obtain⟨k,l⟩:=Bq d;refine⟨Jb c j k a.1,P5 c h l a.2.1,fun o=> ?_⟩;rcases a.2.2 with m|m
  ·rw[m] at o;cases o
  ·exact P5 c r g m
 |.loop j q,b,a=>by rw[A5] at b;rw[BS] at a;rw[E5];exact⟨Jb c j (Bq b).1 a.1,P5 c q (Bq b).2 a.2⟩
 |.block e,b,a=>by rw[A5] at b;rw[BS] at a;rw[E5];exact P6 c e b a.2
 |.write f,b,a=>by rw[A5] at b;rw[BS] at a;rw[E5];exact Jb c f b a
 |.read n p,b,a=>by rw[A5] at b;rw[E5];exact c.set n (O8 b)
theorem P6(c:Lp env E Y O X): ∀e,Bz env e=none->DI e->Kq E Y O X e
 |[],_,_=>by rw[Kq];trivial
 |s::e,b,a=>by rw[Bz] at b;rw[DI] at a;rw[Kq];exact⟨P5 c s (Bq b).1 a.1,P6 c e (Bq b).2 a.2⟩
end
end
theorem So{c:List Sy}{n:Af}: ∀{i b:Nat},DQ c n i=some b->b<i/\AS (c.getD b default).name n=true
 |0,b,a=>by simp[DQ] at a
 |i+1,b,a=>by
  rw[DQ] at a;split at a
  ·rename_i e;cases a;exact⟨by omega,e⟩
  ·obtain⟨f,d⟩:=So a;exact⟨by omega,d⟩
theorem Sn{c:List Sy}{n:Af}: ∀{i:Nat},DQ c n i=none-> ∀a,a<i->AS (c.getD a default).name n=false
 |0,_,a,f=>by omega
 |i+1,b,a,f=>by
  rw[DQ] at b;split at b
  ·cases b
  ·rename_i e;by_cases d:a=i
   ·subst d;unfold AS;simpa using e
   ·exact Sn b a (by omega)
theorem To: ∀(a:List A8)(E:Ao),(AX E a).2=none->(AX E a).1={E with here:=E.here++a.map fun b=>⟨b.1,0,0⟩}
 |[],E,_=>by simp[AX]
 |b::a,E,d=>by
  rw[AX] at d⊢;obtain⟨c,f⟩:=Bq d
  have e:(Be E true b.1 b.2 0 0).1={E with here:=E.here++[⟨b.1,0,0⟩]}:=by
   unfold Be at c⊢;split at c
   ·cases c
   ·rename_i g;rw[Ae g];rfl
  rw[To a _ f,e];simp
theorem PF{E:Ao}{n:Af}{p kind args:Nat}(a:(Be E false n p kind args).2=none):(Be E false n p kind args).1={E with glob:=E.glob++[⟨n,kind,args⟩],fresh:=true}/\A9 E.glob n=none:=by
 unfold Be at a⊢;split at a
 ·cases a
 ·rename_i b;rw[Ae b]
  exact⟨rfl,by
   have: ¬(A9 E.glob n).isSome=true:=b;cases c:A9 E.glob n with
   |none=>rfl
   |some d=>rw[c] at this;exact absurd rfl this⟩
def Iz(a:List Sy)(b:Ro):Ao:=⟨a,b.cells.map fun n=>⟨n,0,0⟩,some (a.length -1),false⟩
theorem XI{E:Ao}{kind:Nat}{a:Ro}(e:(DJ E kind a).2=none)(n:E.here=[]):
 (DJ E kind a).1=⟨E.glob++[⟨a.name.1,kind,a.params.length⟩],[],none,false⟩/\A9 E.glob a.name.1=none/\Bz (Iz (E.glob++[⟨a.name.1,kind,a.params.length⟩]) a) a.body=none:=by
 unfold DJ at e⊢;obtain⟨k,b⟩:=Bq e;obtain⟨f,d⟩:=Bq k;unfold Fg at f d b⊢;obtain⟨l,g⟩:=Bq f;obtain⟨m,q⟩:=Bq l;obtain⟨h,i⟩:=PF m;simp only at d b g⊢;have o:=To _ _ g;have p:=To _ _ d;rw[p,o,h] at b⊢;simp only at b⊢;refine⟨rfl,i,?_⟩;have j:Iz (E.glob++[⟨a.name.1,kind,a.params.length⟩]) a=({({({E with glob:=E.glob++[⟨a.name.1,kind,a.params.length⟩],fresh:=true}:Ao) with here:=E.here++a.params.map fun c=>⟨c.1,0,0⟩}:Ao) with here:=E.here++(a.params.map fun c=>(⟨c.1,0,0⟩:Sy))++a.locals.map fun c=>⟨c.1,0,0⟩}:Ao).enter:=by unfold Iz Ao.enter Ro.cells;simp[n];rfl
 rw[j];exact b
def UI(b:List Sy):Gl->Prop
 |.var _ _=>True
 |.arr _ _ size _=>1<=size/\size<=20
 |.proc a=>Bz (Iz (b++[⟨a.name.1,2,a.params.length⟩]) a) a.body=none
 |.func a=>Bz (Iz (b++[⟨a.name.1,3,a.params.length⟩]) a) a.body=none
theorem XG{E:Ao}{b:Gl}(e:(Ce E b).2=none)(f:E.here=[])(U:E.inside=none):
 (Ce E b).1.glob=E.glob++[BY b]/\(Ce E b).1.here=[]/\(Ce E b).1.inside=none/\A9 E.glob (BY b).name=none/\UI E.glob b:=by
 cases b with
 |var n p=>
  obtain⟨g,h⟩:=PF (show(Be E false n p 0 0).2=none from e);show(Be E false n p 0 0).1.glob=_/\(Be E false n p 0 0).1.here=_/\(Be E false n p 0 0).1.inside=_/\_;rw[g];exact⟨rfl,f,U,h,trivial⟩
 |arr n p size at_=>
  obtain⟨d,c⟩:=Bq (show((Be E false n p 1 0).2.or (F1 size at_))=none from e);obtain⟨g,h⟩:=PF d;show(Be E false n p 1 0).1.glob=_/\(Be E false n p 1 0).1.here=_/\(Be E false n p 1 0).1.inside=_/\_;rw[g];refine⟨rfl,f,U,h,?_⟩;unfold F1 at c;split at c
  ·cases c
  ·show 1<=size/\size<=20;omega
 |proc a=>
  obtain⟨d,c,i⟩:=XI (show(DJ E 2 a).2=none from e) f;show(DJ E 2 a).1.glob=_/\(DJ E 2 a).1.here=_/\(DJ E 2 a).1.inside=_/\_;rw[d];exact⟨rfl,rfl,rfl,c,i⟩
 |func a=>
  obtain⟨d,c,i⟩:=XI (show(DJ E 3 a).2=none from e) f;show(DJ E 3 a).1.glob=_/\(DJ E 3 a).1.here=_/\(DJ E 3 a).1.inside=_/\_;rw[d];exact⟨rfl,rfl,rfl,c,i⟩
theorem Tn: ∀(a:List Gl)(E:Ao),(AO E a).2=none->E.here=[]->E.inside=none->
 (AO E a).1.glob=E.glob++a.map BY/\(AO E a).1.here=[]/\(AO E a).1.inside=none/\
 ∀b c,a[b]? =some c->A9 (E.glob++(a.take b).map BY) (BY c).name=none/\UI (E.glob++(a.take b).map BY) c
 |[],E,_,e,U=>by rw[AO];exact⟨by simp,e,U,fun b c d=>by simp at d⟩
 |c::a,E,g,e,U=>by
  rw[AO] at g⊢;obtain⟨q,r⟩:=Bq g;obtain⟨f,h,i,j,k⟩:=XG q e U;obtain⟨l,m,n,o⟩:=Tn a _ r h i;refine⟨by rw[l,f];simp,m,n,fun b p d=> ?_⟩;cases b with
  |zero=>
   simp at d;subst d;simpa using⟨j,k⟩
  |succ b=>
   have:=o b p (by simpa using d);rw[f] at this;simpa using this
def LM(a:CG):Gl->Nat×Nat
 |.var _ _=>(a.places,1)
 |.arr _ _ size _=>(a.places,size)
 |.proc _=>(a.words.length,0)
 |.func _=>(a.words.length,0)
def Gf:Gl->Nat
 |.var _ _=>1
 |.arr _ _ size _=>size
 |_=>0
def MN(a:CG):Gl->List Nat
 |.proc b=>Jo false (B9 a.g b.name.1 (a.words.length,0)) b a.words.length
 |.func b=>Jo true (B9 a.g b.name.1 (a.words.length,0)) b a.words.length
 |_=>[]
theorem N8(a:CG)(b:Gl):Dj a b=⟨a.words++MN a b,a.places+Gf b,B9 a.g (BY b).name (LM a b)⟩:=by
 cases b with
 |var n p=>simp[Dj,MN,Gf,LM,BY]
 |arr n p s d=>simp[Dj,MN,Gf,LM,BY]
 |proc c=>simp[Dj,MN,Gf,LM,BY,Jo]
 |func c=>simp[Dj,MN,Gf,LM,BY,Jo]
theorem Ve: ∀(a b:List Gl)(c:CG),FX c (a++b)=FX (FX c a) b
 |[],_,_=>rfl
 |d::a,b,c=>by show FX (Dj c d) (a++b)=_;rw[Ve a b];rfl
def A3(G:List Gl)(a:Nat):CG:=FX Ig (G.take a)
def Cm:Gl:=.var default 0
theorem LA{G:List Gl}{a:Nat}(b:a<G.length):A3 G (a+1)=Dj (A3 G a) (G.getD a Cm):=by
 unfold A3;rw[NS b,Ve];have c:G.getD a Cm=G[a]:=by simp[List.getD,b]
 rw[c];rfl
def Fp(G:List Gl):List A8:=Fh (G.map Ff)
theorem Nt{G:List Gl}{k:Nat}(a:k<G.length):(Fp G)[k]? =some ((BY (G.getD k Cm)).name,Gf (G.getD k Cm)):=by
 unfold Fp Fh;rw[Mn,CC,Bb a];have b:G.getD k Cm=G[k]:=by simp[List.getD,a]
 rw[b];simp only[I3,Function.comp]
 congr 1
 cases G[k]<;>simp[Ff,BY,Gf]
theorem TU(G:List Gl):(Fp G).length=G.length:=by simp[Fp,Fh]
theorem Afw{Y:List A8}{a:Nat}{c:Af×Nat}(b:Y[a]? =some c):D8 Y (a+1)=D8 Y a+c.2:=by
 unfold D8;have d:=(BH.1 b).1;rw[NS d,E6,List.sum_append];have:Y[a]=c:=by rw[Bb d] at b;exact FH b
 rw[this];simp
theorem Pz{G:List Gl}: ∀a,a<=G.length->(A3 G a).places=D8 (Fp G) a
 |0,_=>by simp[A3,FX,Ig,D8]
 |a+1,b=>by rw[LA (by omega),N8,Afw (Nt (by omega))];show(A3 G a).places+_=_;rw[Pz a (by omega)]
theorem PA{G:List Gl}{i:Nat}: ∀a,i<=a->a<=G.length-> ∃b,(A3 G a).words=(A3 G i).words++b
 |0,d,_=>by
  have:i=0:=by omega
  subst this;exact⟨[],by simp⟩
 |a+1,d,f=>by
  by_cases c:i=a+1
  ·subst c;exact⟨[],by simp⟩
  ·obtain⟨b,e⟩:=PA (G:=G) (i:=i) a (by omega) (by omega);rw[LA (by omega),N8];exact⟨b++MN (A3 G a) (G.getD a Cm),by show(A3 G a).words++_=_;rw[e,DO]⟩
def DF(G:List Gl)(i:Nat):Af:=(BY (G.getD i Cm)).name
section
variable{G:List Gl}(V: ∀i j,i<j->j<G.length->AS (DF G i) (DF G j)=false)
include V
theorem RF{i j:Nat}{n:Af}(U:i<G.length)(Z:j<G.length)(b:AS (DF G i) n=true)(c:AS (DF G j) n=true):i=j:=by
 have d:=Se b c;have e:=Se c b;rcases Nat.lt_trichotomy i j with a|a|a
 ·rw[V i j a Z] at d;cases d
 ·exact a
 ·rw[V j i a U] at e;cases e
theorem ME{i:Nat}{n:Af}(O:AS (DF G i) n=true): ∀a,i<a->a<=G.length->(A3 G a).g n=LM (A3 G i) (G.getD i Cm)
 |0,c,_=>by omega
 |a+1,c,e=>by
  rw[LA (by omega),N8];show B9 (A3 G a).g (DF G a) (LM (A3 G a) (G.getD a Cm)) n=_;unfold B9;by_cases b:i=a
  ·subst b;rw[Ag O]
  ·have: ¬AS (DF G a) n=true:=fun d=>b (RF V (by omega) (by omega) O d);rw[Ae this];exact ME O a (by omega) (by omega)
theorem Zo{i:Nat}{n:Af}(U:i<G.length)(O:AS (DF G i) n=true):(Fp G).findIdx? (fun d=>AS d.1 n)=some i:=by
 rw[Rm];have e:=TU G;refine⟨by omega,?_,fun j Z=> ?_⟩
 ·have:=Nt U;rw[Bb (by omega)] at this;rw[FH this];exact O
 ·have a:=Nt (G:=G) (k:=j) (by omega);rw[Bb (by omega)] at a;have b:(Fp G)[j].1=DF G j:=by rw[FH a];rfl
  simp only[b,Bool.not_eq_true];cases c:AS (DF G j) n
  ·rfl
  ·exact absurd (RF V (by omega) U c O) (by omega)
end
theorem Ze: ∀{G:List Gl}{i:Nat}{n:Af},(∀i j,i<j->j<G.length->AS (DF G i) (DF G j)=false)->i<G.length->AS (DF G i) n=true->
 (∀a,G.getD i Cm=.proc a->DL G n=some (false,a))/\(∀a,G.getD i Cm=.func a->DL G n=some (true,a))
 |[],i,n,_,U,_=>by simp at U
 |b::G,0,n,V,U,O=>by
  constructor
  ·intro a c;have d:b=.proc a:=c;subst d;have:AS a.name.1 n=true:=O;simp[DL,this]
  ·intro a c;have d:b=.func a:=c;subst d;have:AS a.name.1 n=true:=O;simp[DL,this]
 |b::G,i+1,n,V,U,O=>by
  have e:AS (BY b).name n=false:=by
   cases k:AS (BY b).name n
   ·rfl
   ·have:=V 0 (i+1) (by omega) U;have f:AS (DF (b::G) 0) (DF (b::G) (i+1))=true:=Se (b:=n) k O;rw[f] at this;cases this
  have l:DL (b::G) n=DL G n:=by
   cases b with
   |var _ _=>rfl
   |arr _ _ _ _=>rfl
   |proc a=>have:AS a.name.1 n=false:=e;simp[DL,this]
   |func a=>have:AS a.name.1 n=false:=e;simp[DL,this]
  rw[l];exact Ze (G:=G) (i:=i) (fun g h m f=>V (g+1) (h+1) (by omega) (by simp;omega)) (by simpa using U) O
theorem Nr: ∀{G:List Gl}{n:Af}{c:Bool}{b:Ro},DL G n=some (c,b)-> ∃i,i<G.length/\AS (DF G i) n=true/\G.getD i Cm=if c then .func b else .proc b
 |[],n,c,b,a=>by simp[DL] at a
 |.var h j::G,n,c,b,a=>by obtain⟨i,f,d,e⟩:=Nr (G:=G) (show DL G n=some (c,b) from a);exact⟨i+1,by simp;omega,d,e⟩
 |.arr h j l m::G,n,c,b,a=>by obtain⟨i,f,d,e⟩:=Nr (G:=G) (show DL G n=some (c,b) from a);exact⟨i+1,by simp;omega,d,e⟩
 |.proc k::G,n,c,b,a=>by
  rw[DL] at a;split at a
  ·rename_i g;cases a;exact⟨0,by simp,g,rfl⟩
  ·obtain⟨i,f,d,e⟩:=Nr (G:=G) a;exact⟨i+1,by simp;omega,d,e⟩
 |.func k::G,n,c,b,a=>by
  rw[DL] at a;split at a
  ·rename_i g;cases a;exact⟨0,by simp,g,rfl⟩
  ·obtain⟨i,f,d,e⟩:=Nr (G:=G) a;exact⟨i+1,by simp;omega,d,e⟩
theorem P0{cells:List Af}{n:Af}:(A9 (cells.map fun n=>(⟨n,0,0⟩:Sy)) n=none-> ∀b∈cells,AS b n=false)/\(∀a,A9 (cells.map fun n=>(⟨n,0,0⟩:Sy)) n=some a-> ∃i,cells.findIdx? (fun b=>AS b n)=some i):=by
 constructor
 ·intro d b h;obtain⟨a,c,rfl⟩:=Rs h;have:=Sn d a (by simpa using c);simpa[List.getD,c] using this
 ·intro a d;obtain⟨g,e⟩:=So d;have c:a<cells.length:=by simpa using g
  cases f:cells.findIdx? (fun b=>AS b n) with
  |some i=>exact⟨i,rfl⟩
  |none=>
   rw[NP] at f;have:=f cells[a] (D4 c);simp[List.getD,c] at e;rw[e] at this;cases this
section
variable{G:List Gl}
def JS(G:List Gl)(n:Af):Nat:=((A3 G G.length).g n).1
theorem Sx{a:List Gl}{i:Nat}(U:i<a.length):(a.map BY).getD i default=BY (a.getD i Cm):=by simp[List.getD,U]
theorem Uc{j i:Nat}(U:i<j)(Z:j<=G.length):(G.take j).getD i Cm=G.getD i Cm:=by simp[List.getD,U,show i<G.length by omega]
theorem Wl{n:Af}{j i:Nat}(Z:j<=G.length)(d:A9 ((G.take j).map BY) n=some i):i<j/\AS (DF G i) n=true/\((G.take j).map BY).getD i default=BY (G.getD i Cm):=by
 obtain⟨a,c⟩:=So d;have e:((G.take j).map BY).length=j:=by simp;omega
 rw[e] at a;have b:((G.take j).map BY).getD i default=BY (G.getD i Cm):=by rw[Sx (by simp;omega),Uc a Z]
 rw[b] at c;exact⟨a,c,b⟩
variable(V: ∀i j,i<j->j<G.length->AS (DF G i) (DF G j)=false)(I: ∀i,i<G.length->(DF G i).toList≠[])
include V
section
variable{n:Af}{j i:Nat}(Z:j<=G.length)(U:i<j)(O:AS (DF G i) n=true)
include Z U O
theorem Q5(a:(BY (G.getD i Cm)).kind=0):
 ∃c,(Fp G).findIdx? (fun d=>AS d.1 n)=some c/\((Fp G).getD c default).2=1/\((A3 G j).g n).1=D8 (Fp G) c:=by
 refine⟨i,Zo V (by omega) O,?_,?_⟩
 ·rw[Dg,Nt (by omega)];show Gf (G.getD i Cm)=1;cases b:G.getD i Cm<;>rw[b] at a<;>simp[BY] at a;rfl
 ·rw[ME V O j U Z];cases b:G.getD i Cm<;>rw[b] at a<;>simp[BY] at a;show(A3 G i).places=_;exact Pz i (by omega)
theorem UY(b:(BY (G.getD i Cm)).kind=1):
 ∃a,(Fp G).findIdx? (fun d=>AS d.1 n)=some a/\(A3 G j).g n=(D8 (Fp G) a,((Fp G).getD a default).2):=by
 refine⟨i,Zo V (by omega) O,?_⟩;rw[Dg,Nt (by omega),ME V O j U Z];show _=(_,Gf (G.getD i Cm));cases c:G.getD i Cm<;>rw[c] at b<;>simp[BY] at b;show((A3 G i).places,_)=_;rw[Pz i (by omega)];rfl
end
theorem Pw{E:CE}{n:Af}{j i:Nat}{f:Bool}(g:E.g=(A3 G j).g)(Z:j<=G.length)(U:i<j)(O:AS (DF G i) n=true)(c:(BY (G.getD i Cm)).kind=if f then 3 else 2):
 LZ G (JS G) E f n (BY (G.getD i Cm)).args:=by
 obtain⟨h,k⟩:=Ze V (show i<G.length by omega) O;have d:=ME V O j U Z;have e:=ME V O G.length (by omega) (AA _);cases f with
 |false=>
  cases a:G.getD i Cm<;>rw[a] at c<;>simp[BY] at c;rename_i b;exact⟨b,h b a,rfl,by rw[g,d];unfold JS;rw[e]⟩
 |true=>
  cases a:G.getD i Cm<;>rw[a] at c<;>simp[BY] at c;rename_i b;exact⟨b,k b a,rfl,by rw[g,d];unfold JS;rw[e]⟩
include I
theorem AdL:Lp ⟨G.map BY,[],none,false⟩ (Fc (A3 G G.length)) (Fp G) [] (LZ G (JS G) (Fc (A3 G G.length))):=by
 have k:(G.take G.length).map BY=G.map BY:=by rw[E7]
 have key: ∀(n:Af)(b:Int),0<=b->((⟨G.map BY,[],none,false⟩:Ao).kindIx n).1=b-> ∃i,i<G.length/\AS (DF G i) n=true/\((BY (G.getD i Cm)).kind:Int)=b/\(⟨G.map BY,[],none,false⟩:Ao).args n=(BY (G.getD i Cm)).args:=by
  intro n b r a;unfold Ao.kindIx at a;have m:A9 ([]:List Sy) n=none:=rfl;simp only[m] at a;cases c:A9 (G.map BY) n with
  |none=>rw[c] at a;simp at a;omega
  |some i=>
   rw[c] at a;rw[<-k] at c;obtain⟨o,p,h⟩:=Wl (AA _) c;rw[k] at h c;refine⟨i,o,p,by rw[<-h];exact a,?_⟩;unfold Ao.args;rw[c];simp only;rw[h]
 have q: ∀n i,i<G.length->AS (DF G i) n=true->AS n (⟨#[]⟩:Af)=false:=by
  intro n i U O;cases l:AS n (⟨#[]⟩:Af)
  ·rfl
  ·rw[LB] at l O;exact absurd (by rw[O,l];show(bs []).toList=[];rw[I7]) (I i U)
 refine⟨?_,?_,?_,?_,?_,?_⟩
 ·intro n a;obtain⟨i,U,O,d,_⟩:=key n 0 (by omega) a;obtain⟨b,e,f,g⟩:=Q5 V (AA _) U O (by omega);exact .inr ⟨rfl,rfl,b,e,f,g⟩
 ·intro n a;obtain⟨i,U,O,d,_⟩:=key n 1 (by omega) a;exact UY V (AA _) U O (by omega)
 ·intro n a;obtain⟨i,U,O,d,j⟩:=key n 2 (by omega) a;rw[j];exact Pw V (f:=false) rfl (AA _) U O (by show _=2;omega)
 ·intro n a;obtain⟨i,U,O,d,j⟩:=key n 3 (by omega) a;rw[j];exact Pw V (f:=true) rfl (AA _) U O (by show _=3;omega)
 ·intro n a;obtain⟨i,U,O,d,_⟩:=key n 0 (by omega) a;obtain⟨b,e,f,g⟩:=Q5 V (AA _) U O (by omega);exact .inr ⟨rfl,rfl,q n i U O,b,e,f,g⟩
 ·intro n a;unfold Ao.isRes at a;simp at a
theorem AdK{c:Nat}{a:Ro}{e:Bool}(K:c<G.length)(A:G.getD c Cm=if e then .func a else .proc a):
 Lp (Iz ((G.take (c+1)).map BY) a) (CT e (A3 G (c+1)).g a) (Fp G) (Gi e a) (LZ G (JS G) (CT e (A3 G (c+1)).g a)):=by
 have D:DF G c=a.name.1:=by unfold DF;rw[A];cases e<;>rfl
 have C:(BY (G.getD c Cm)).kind=if e then 3 else 2:=by rw[A];cases e<;>rfl
 have z: ∀n i,a.cells.findIdx? (fun d=>AS d n)=some i->(Gi e a).findIdx? (fun d=>AS d n)=some i:=by intro n i b;unfold Gi;rw[Ux,b];rfl
 have s: ∀n,(∀d∈a.cells,AS d n=false)->a.cells.findIdx? (fun d=>AS d n)=none:=by intro n b;rw[NP];exact b
 have key: ∀(n:Af)(o:Int),0<=o->((Iz ((G.take (c+1)).map BY) a).kindIx n).1=o->
  (o=0/\ ∃i,a.cells.findIdx? (fun d=>AS d n)=some i)\/((∀d∈a.cells,AS d n=false)/\ ∃i,i<c+1/\AS (DF G i) n=true/\((BY (G.getD i Cm)).kind:Int)=o/\(Iz ((G.take (c+1)).map BY) a).args n=(BY (G.getD i Cm)).args):=by
  intro n o l b;unfold Ao.kindIx Iz at b;simp only at b;cases m:A9 (a.cells.map fun n=>(⟨n,0,0⟩:Sy)) n with
  |some i=>
   rw[m] at b;simp at b;exact .inl ⟨b.symm,P0.2 i m⟩
  |none=>
   rw[m] at b;simp only at b;refine .inr ⟨P0.1 m,?_⟩;cases q:A9 ((G.take (c+1)).map BY) n with
   |none=>rw[q] at b;simp at b;omega
   |some i=>
    rw[q] at b;obtain⟨k,j,p⟩:=Wl (by omega) q;refine⟨i,k,j,by rw[<-p];exact b,?_⟩;unfold Ao.args Iz;simp only;rw[q];simp only;rw[p]
 have F: ∀n i,i<c+1->AS (DF G i) n=true->(BY (G.getD i Cm)).kind=0->AS a.name.1 n=false:=by
  intro n i U O l;cases g:AS a.name.1 n
  ·rfl
  ·rw[<-D] at g;have:=RF V (by omega) K O g;subst this;rw[C] at l;cases e<;>simp at l
 have B: ∀n,(∀d∈a.cells,AS d n=false)->AS a.name.1 n=false->(Gi e a).findIdx? (fun d=>AS d n)=none:=by
  intro n k j;rw[NP];intro d h;unfold Gi at h;rcases BD.1 h with h|h
  ·exact k d h
  ·split at h
   ·simp at h;subst h;exact j
   ·simp at h
 have N: ∀n i,i<c+1->AS (DF G i) n=true->AS a.name.1 n=false->AS n (CT e (A3 G (c+1)).g a).res=false:=by
  intro n i U O j;show AS n (if e then a.name.1 else⟨#[]⟩)=false;cases e with
  |true=>
   simp only[Hr];cases g:AS n a.name.1
   ·rfl
   ·rw[LB] at g;have:AS a.name.1 n=true:=LB.2 g.symm;rw[this] at j;cases j
  |false=>
   cases g:AS n (⟨#[]⟩:Af)
   ·exact g
   ·rw[LB] at g O;exact absurd (by rw[O,g];show(bs []).toList=[];rw[I7]) (I i (by omega))
 refine⟨?_,?_,?_,?_,?_,?_⟩
 ·intro n b;rcases key n 0 (by omega) b with⟨_,i,U⟩|⟨f,i,U,O,r,_⟩
  ·exact .inl ⟨i,z n i U,U⟩
  ·obtain⟨x,t,u,v⟩:=Q5 V (show c+1<=G.length by omega) U O (by omega);exact .inr ⟨B n f (F n i U O (by omega)),s n f,x,t,u,v⟩
 ·intro n b;rcases key n 1 (by omega) b with⟨l,_⟩|⟨f,i,U,O,r,_⟩
  ·omega
  ·exact UY V (show c+1<=G.length by omega) U O (by omega)
 ·intro n b;rcases key n 2 (by omega) b with⟨l,_⟩|⟨f,i,U,O,r,w⟩
  ·omega
  ·rw[w];exact Pw V (f:=false) rfl (show c+1<=G.length by omega) U O (by show _=2;omega)
 ·intro n b;rcases key n 3 (by omega) b with⟨l,_⟩|⟨f,i,U,O,r,w⟩
  ·omega
  ·rw[w];exact Pw V (f:=true) rfl (show c+1<=G.length by omega) U O (by show _=3;omega)
 ·intro n b;rcases key n 0 (by omega) b with⟨_,i,U⟩|⟨f,i,U,O,r,_⟩
  ·exact .inl ⟨i,z n i U,.inl U⟩
  ·obtain⟨x,t,u,v⟩:=Q5 V (show c+1<=G.length by omega) U O (by omega);have E:=F n i U O (by omega);exact .inr ⟨B n f E,s n f,N n i U O E,x,t,u,v⟩
 ·intro n b;unfold Ao.isRes Iz at b;have L:((G.take (c+1)).map BY).length -1=c:=by simp;omega
  rw[L] at b;simp only[NG,PE] at b;obtain⟨⟨k,j⟩,p⟩:=b;have H:((G.take (c+1)).map BY).getD c default=BY (G.getD c Cm):=by rw[Sx (by simp;omega),Uc (by omega) (by omega)]
  rw[H] at k j
  have m:e=true:=by cases e;·rw[C] at k;simp at k
                    ·rfl
  subst m;have O:AS a.name.1 n=true:=by rw[<-D];exact j
  have f: ∀d∈a.cells,AS d n=false:=P0.1 (by
   cases P:A9 (a.cells.map fun n=>(⟨n,0,0⟩:Sy)) n with
   |none=>rfl
   |some c=>rw[P] at p;cases p)
  have M:a.own true=true:=by
   unfold Ro.own;simp only[Bool.true_and,Bool.not_eq_true',Ri];intro d h g;have y:=f d h;have J:AS d n=true:=by rw[LB] at*;rw[g,O]
   rw[J] at y;cases y
  refine .inl ⟨a.cells.length,?_,.inr ⟨s n f,?_,rfl⟩⟩
  ·unfold Gi;rw[Ux,s n f,M];simp[O]
  ·show AS n a.name.1=true;rw[LB] at*;exact O.symm
end
theorem Vu(a b c:List Nat):C6 (a++b++c) a.length b:=fun j e Z=>by have d:=(BH.1 Z).1;rw[DO,CS (by omega),Jy,CR d];exact Z
theorem ZK: ∀(a:List Nat)(b:Nat),(∀c∈a,c<=b)->a.sum<=a.length*b
 |[],_,_=>by simp
 |e::a,b,d=>by have g:=d e (by simp);have h:=ZK a b (fun c f=>d c (by simp[f]));rw[List.sum_cons,Bg,UM];omega
theorem Zk{v:List Az}{p:Pr}(u:Mu v p)(aq:v.length<=601)(H:D7 ⟨[],[],none,false⟩ p=none)(ab:(BI p).1.length<=5000)(input:List Int)(g:Nat):
 ∃f,Cc (BI p).1 g (m0 (BI p) input) f/\f.over=some (El p input g).1/\f.out=(El p input g).2.1/\f.used=(El p input g).2.2:=by
 unfold D7 at H;obtain⟨am,an⟩:=Bq H;obtain⟨z,E,F,x⟩:=Tn p.globals _ am rfl rfl;simp only[Hl] at z x;have ap:=u.len
 have I: ∀i,i<p.globals.length->(DF p.globals i).toList≠[]:=by
  intro i U;have h:p.globals.getD i Cm=p.globals[i]:=by simp[List.getD,U]
  have:=(u.globals p.globals[i] (D4 U)).1;unfold DF;rw[h];generalize p.globals[i]=y at*;cases y with
  |var n D=>exact this.1
  |arr n D s M=>exact this.1
  |proc b=>exact this.name.1
  |func b=>exact this.name.1
 have V: ∀i j,i<j->j<p.globals.length->AS (DF p.globals i) (DF p.globals j)=false:=by
  intro i j Y Z;have h:p.globals[j]? =some (p.globals.getD j Cm):=by simp[List.getD,Z]
  have d:=(x j _ h).1;have:=Sn d i (by simp;omega);rw[Sx (by simp;omega),Uc Y (by omega)] at this;exact this
 have K:((Fp p.globals).map (·.2)).sum<=1000000:=by
  have:=ZK ((Fp p.globals).map (·.2)) 20 (fun ao m=>by
   obtain⟨au,al,rfl⟩:=CD.1 m;obtain⟨i,U,rfl⟩:=Rs al;have G:i<p.globals.length:=by rw[TU] at U;exact U
   have c:=Nt G;rw[Bb U] at c;rw[FH c];have h:p.globals[i]? =some (p.globals.getD i Cm):=by simp[List.getD,G]
   have d:=(x i _ h).2;cases l:p.globals.getD i Cm with
   |var n D=>simp[Gf]
   |arr n D s M=>rw[l] at d;exact d.2
   |proc b=>simp[Gf]
   |func b=>simp[Gf])
  rw[BF,TU] at this;omega
 have C:FX Ig p.globals=A3 p.globals p.globals.length:=by unfold A3;rw[E7]
 have B:(BI p).1=(A3 p.globals p.globals.length).words++Bt (Fc (A3 p.globals p.globals.length)) (A3 p.globals p.globals.length).words.length p.body++[0]:=by unfold BI;rw[C]
 have S:UR (BI p).1 p.globals (Fp p.globals) (JS p.globals):=by
  intro n k b o;obtain⟨a,e,O,l⟩:=Nr o;refine⟨(A3 p.globals (a+1)).g,?_,?_⟩
  ·have P:=ME V O p.globals.length (by omega) (AA _);have ad:JS p.globals n=(A3 p.globals a).words.length:=by unfold JS;rw[P,l];cases k<;>rfl
   have t:=LA e;rw[N8,l] at t;have ak:(A3 p.globals (a+1)).words=(A3 p.globals a).words++Jo k (A3 p.globals (a+1)).g b (A3 p.globals a).words.length:=by rw[t];cases k<;>rfl
   obtain⟨ar,ai⟩:=PA (G:=p.globals) (i:=a+1) p.globals.length (by omega) (AA _);rw[ad,B,ai,ak,DO,DO];exact Vu _ _ _
  ·have h:p.globals[a]? =some (p.globals.getD a Cm):=by simp[List.getD,e]
   have d:=(x a _ h).2;have ah:(p.globals.take (a+1)).map BY=(p.globals.take a).map BY++[BY (p.globals.getD a Cm)]:=by rw[NS e,E6];simp[List.getD,e]
   have ac:Bz (Iz ((p.globals.take (a+1)).map BY) b) b.body=none:=by
    rw[ah];rw[l] at d⊢;cases k
    ·exact d
    ·exact d
   have aj:DI b.body:=by
    have Q:p.globals.getD a Cm=p.globals[a]:=by simp[List.getD,e]
    have c:=(u.globals p.globals[a] (D4 e)).1;rw[<-Q,l] at c;cases k
    ·exact c.body.2
    ·exact c.body.2
   exact P6 (AdK V I e l) b.body ac aj
 have R:(AO ⟨[],[],none,false⟩ p.globals).1=⟨p.globals.map BY,[],none,(AO ⟨[],[],none,false⟩ p.globals).1.fresh⟩:=by generalize(AO ⟨[],[],none,false⟩ p.globals).1=L at*;cases L;simp only at z E F;rw[z,E,F]
 have T:Kq (Fc (A3 p.globals p.globals.length)) (Fp p.globals) [] (LZ p.globals (JS p.globals) (Fc (A3 p.globals p.globals.length))) p.body:=by
  have q:=AdL V I;have aa:Lp (AO ⟨[],[],none,false⟩ p.globals).1 (Fc (A3 p.globals p.globals.length)) (Fp p.globals) [] (LZ p.globals (JS p.globals) (Fc (A3 p.globals p.globals.length))):=by rw[R];exact⟨q.var,q.arr,q.proc,q.func,q.set,q.res⟩
  exact P6 aa p.body an u.body.2
 have ag:B7 g (Fp p.globals) [] ⟨[],[],[]⟩ (QQ p input) (m0 (BI p) input) (A3 p.globals p.globals.length).words.length []:=by
  refine⟨?_,rfl,rfl,rfl,?_,rfl,rfl,rfl,rfl,rfl,B6 _,by simp[QQ],rfl,rfl,B6 _,B6 _⟩
  ·unfold m0 BI;rw[C]
  ·show List.replicate (BI p).2.2 0=G7 (p.globals.map Ff);have N:(BI p).2.2=(G7 (p.globals.map Ff)).length:=by have c:=Oi (p.globals.map Ff) p.globals.length;rw[I1 (by simp)] at c;rw[c];unfold BI;rw[C];exact Pz _ (AA _)
   rw[N]
   symm
   rw[List.eq_replicate_iff];refine⟨rfl,fun ao m=> ?_⟩;unfold G7 at m;obtain⟨w,W,m⟩:=List.mem_flatMap.1 m;obtain⟨y,_,rfl⟩:=CD.1 W;cases y<;>simp[Ff] at m
   ·exact m
   ·exact m.2
 have ae: ∀n k b,DL p.globals n=some (k,b)->b.params.length+b.locals.length<=700:=by
  intro n k b o;obtain⟨a,e,_,l⟩:=Nr o;have h:p.globals.getD a Cm=p.globals[a]:=by simp[List.getD,e]
  have c:=u.globals p.globals[a] (D4 e);rw[<-h,l] at c;cases k
  ·have A:b.params.length+b.locals.length<=v.length:=c.2;omega
  ·have A:b.params.length+b.locals.length<=v.length:=c.2;omega
 have J:=QL (Zp K ab ae S 30 0 (Fc (A3 p.globals p.globals.length)) [] (by omega)) K (PV g p.globals 30) p.body _ ⟨[],[],[]⟩ _ _ T rfl (by rw[B];exact Vu _ _ _) ag;have X:(BI p).1[(A3 p.globals p.globals.length).words.length+(Bt (Fc (A3 p.globals p.globals.length)) (A3 p.globals p.globals.length).words.length p.body).length]? =some 0:=by rw[B,<-AG,CS (AA _),I2];rfl
 unfold El Ld;generalize Dp g (Ef g p.globals 30) p.body (QQ p input)=s at*;cases t:s.stop with
 |none=>
  obtain⟨f,o,r⟩:=J.1 t;have af:CP (BI p).1 g f=some (({f with pc:=f.pc+1}:MS).end_ 0):=by unfold CP;rw[r.pc,X];rfl
  exact⟨_,o.trans (Cc.one r.over r.small af),rfl,r.out,r.used⟩
 |some w=>
  obtain⟨f,o,d,c,A⟩:=J.2 w t;refine⟨f,o,?_,c,A⟩;rw[d];unfold Sd;cases w with
  |zero=>rfl
  |succ w=>simp
