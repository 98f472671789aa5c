/- The maker of code: statements. The maker of code: choices, l -/
import Derived.Test.YtklobognaldjpaaGreatCCm9
set_option maxRecDepth 1000000
set_option maxHeartbeats 2000000
namespace Go.Proofs.YtklobognaldjpaaGreat
open Go.Proofs.Tryz
open Go.RowKit
mutual
theorem IU: ∀a,B0 a->BX a
 |.nil,h=>by rw[B0] at h;exact h.elim
 |.num _,_=>by rw[BX];trivial
 |.var n p,h=>by rw[B0] at h;rw[BX];exact h
 |.elem n p c,h=>by rw[B0] at h;rw[BX];exact⟨h.1,IU c h.2⟩
 |.call n p args,h=>by rw[B0] at h;rw[BX];exact⟨h.1,h.2.1,Uj args h.2.2⟩
 |.bin op b d,h=>by rw[B0] at h;rw[BX];exact⟨IU b h.1,IU d h.2⟩
 |.un op a,h=>by rw[B0] at h;rw[BX];exact IU a h
theorem Uj: ∀b,E9 b->EO b
 |[],_=>by rw[EO];trivial
 |a::b,h=>by rw[E9] at h;rw[EO];exact⟨IU a h.1,Uj b h.2⟩
end
theorem IN{n:Af}(h:DH n):n.size<=maxLen:=by have:=h.2;unfold maxLen;omega
section
variable{base O U V X:Nat}{Y:Option Nat}{w I:World}{M:Ck}{v A:Value}
def ST(base O U V X:Nat)(Y:Option Nat)(E:CE)(s:St):Prop:=
 ∀(Q:AW)(w:World)(a:Value)(M:Ck)(v:Value),MK base O U V X Y w M v->M.E=E->Dd Q w a s->(∀b,Q b->b<base/\b≠O)->BS s->M.words.length+(AH E M.words.length s).length<=1000000->
  Ah 132 #[Al O,a] w (BZ base O U V X Y (M.more (Au (AH E M.words.length s))) v w)
def SL(base O U V X:Nat)(Y:Option Nat)(E:CE)(a:List St):Prop:=
 ∀(Q:AW)(w:World)(c:Value)(d:List Value)(M:Ck)(v:Value),MK base O U V X Y w M v->M.E=E->B8 Q w c d->Di Q w d a->(∀b,Q b->b<base/\b≠O)->a.length<=602->DI a->M.words.length+(Bt E M.words.length a).length<=1000000->
  Ah 100 #[Al O,c] w (BZ base O U V X Y (M.more (Au (Bt E M.words.length a))) v w)
theorem Mv.newW{a:World}{v1:Value}{f:Ck}{b:Array Value}{t:TypeId}(h:MK base O U V X Y a f v1){d e:World}{c j:Value}(g:Mv O v1 c (a.alloc (.cells b t)) d)(i:Mv O c j d e)(o:Nat):e.cell? (Ac a.heap.size o)=b[o]? :=
 Mv.new h (g.trans i) o
theorem AhJ{E:CE}{i:List St}(K:SL base O U V X Y E i):ST base O U V X Y E (.block i):=by
 intro Q w H M v h k x c b e;cases x with
 |block d g f=>
 rename_i p q;rw[BS] at b;rw[AH] at e⊢;have D:=h.lt;have o: ∀a,Ay w (w.alloc a):=fun a=>AP;have hF:=fun a=>K Q (w.alloc a) p q M v (h.below (o a)) k (d.keep (G9 h c a)) ⟨g,fun z A B t u=>(f z A B t u).keep (G9 h c a)⟩ c b.1 b.2 e;have l:=K Q w p q M v h k d ⟨g,f⟩ c b.1 b.2 e;obtain⟨F,G,rfl⟩:=d.len;unfold BZ at hF l;clear e g f d;generalize M.more (Au (Bt E M.words.length i))=C at*;go_enter func132,ntmps132;go_wp2_with(go_at_call 100;first|(refine(hF _).mono ?_;rintro s r⟨rfl,j,m,y⟩;have n:Mv O v j w r:=(Mv.of_below (o _)).trans y)|(refine l.mono ?_;rintro s r⟨rfl,j,m,n⟩));go_end0;exact⟨rfl,j,m,n⟩
theorem AbL{E:CE}(a:Ex):ST base O U V X Y E (.write a):=by
 intro Q w R M v h y A g o r;cases A with
 |write i=>
 rename_i u;rw[BS] at o;have J:=i.cells;have N:=Cf i.one;have K:=h.lt;have f:(M.more [1]).words.length=M.words.length+1:=by rw[Bo];rfl
 have s:(AH E M.words.length (.write a)).length=(Ak E (M.words.length+1) a).length+2:=by rw[AH];simp
 rw[s] at r;have x:=fun b=>K3 h b [1] 3 (by simpa using(by omega:M.words.length+1<=1000000));have p: ∀c d,MK base O U V X Y c (M.more [1]) d->Mv O v d w c-> ∀b,Ah 155 #[Al O,u] (c.alloc b) (BZ base O U V X Y ((M.more [1]).more (Au (Ak E (M.words.length+1) a))) d (c.alloc b)):=fun c d e B b=>by have:=IB a Q (c.alloc b) u (M.more [1]) d (e.below ((Below.refl _ _).alloc (AA _) b)) y ((i.keep (B.keepQ h g)).keep (G9 e g b)) g (IU _ o) (by rw[f];omega);rw[f] at this;exact this
 have q:((M.more [1]).more (Au (Ak E (M.words.length+1) a))).words.length+1<=1000000:=by rw[Bo,f,BF];omega
 have l:((M.more [1]).more (Au (Ak E (M.words.length+1) a))).more [28]=M.more (Au (AH E M.words.length (.write a))):=by rw[CM,CM,AH];simp
 have j:=fun c d(e:MK base O U V X Y c ((M.more [1]).more (Au (Ak E (M.words.length+1) a))) d)=>EI e [28] 3 (by simpa using q);rw[l] at j;clear l q r s f;unfold BZ at p;generalize(M.more [1]).more (Au (Ak E (M.words.length+1) a))=H at*;generalize M.more [1]=G at*;generalize M.more (Au (AH E M.words.length (.write a)))=I at*;go_enter func132,ntmps132;go_wp2_with(first|(go_at_call 101;have _q:=n;refine(j _ _ n).mono ?_;rintro k W⟨rfl,F,z,D⟩)|(go_at_call 155;refine(p _ _ m t _).mono ?_;rintro k T⟨rfl,P,n,C⟩)|(go_at_call 101;refine(x _).mono ?_;rintro k S⟨rfl,v1,m,t⟩;have L:=m.lt));go_end0;exact⟨rfl,F,z,t.trans ((Mv.of_below AP).trans (C.trans D))⟩
section
variable{E:CE}(n:Af)(p:Nat)
include n p
theorem AhI(a:Ex):ST base O U V X Y E (.assign n p a):=by
 intro Q w ac M v h q D j k t;cases D with
 |assign _ _ l=>
 rename_i z;rw[BS] at k;have T:=l.cells;have aa:=Cf l.one;have W:=h.lt;have G:=IN k.1;have H:(E.set n).length=2:=by unfold CE.set;split;rfl;split<;>rfl
 have f:(M.more [1]).words.length=M.words.length+1:=by rw[Bo];rfl
 have u:(AH E M.words.length (.assign n p a)).length=(Ak E (M.words.length+1) a).length+3:=by rw[AH];simp[H]
 rw[u] at t;have A:=fun b=>K3 h b [1] 3 (by simpa using(by omega:M.words.length+1<=1000000));have r: ∀c d,MK base O U V X Y c (M.more [1]) d->Mv O v d w c-> ∀b,Ah 155 #[Al O,z] (c.alloc b) (BZ base O U V X Y ((M.more [1]).more (Au (Ak E (M.words.length+1) a))) d (c.alloc b)):=fun c d e F b=>by have:=IB a Q (c.alloc b) z (M.more [1]) d (e.below ((Below.refl _ _).alloc (AA _) b)) q ((l.keep (F.keepQ h j)).keep (G9 e j b)) j (IU _ k.2) (by rw[f];omega);rw[f] at this;exact this
 have s:((M.more [1]).more (Au (Ak E (M.words.length+1) a))).words.length+2<=1000000:=by rw[Bo,f,BF];omega
 have o:((M.more [1]).more (Au (Ak E (M.words.length+1) a))).more (Au (E.set n))=M.more (Au (AH E M.words.length (.assign n p a))):=by rw[CM,CM,AH];simp
 have g:=fun c d(e:MK base O U V X Y c ((M.more [1]).more (Au (Ak E (M.words.length+1) a))) d)=>Zl e G p s;rw[ER,ER,q,o] at g;clear o s t u f;unfold BZ at r g;generalize(M.more [1]).more (Au (Ak E (M.words.length+1) a))=L at*;generalize M.more [1]=K at*;generalize M.more (Au (AH E M.words.length (.assign n p a)))=N at*;go_enter func132,ntmps132;go_wp2_with(first|(go_at_call 156;refine(g _ _ B).mono ?_;rintro m af⟨rfl,J,C,I⟩)|(go_at_call 155;refine(r _ _ i x _).mono ?_;rintro m ae⟨rfl,ab,B,y⟩;obtain⟨P,R,S⟩:=Mv.new3 i y)|(go_at_call 101;refine(A _).mono ?_;rintro m ad⟨rfl,v1,i,x⟩;have Z:=i.lt));go_end0;exact⟨rfl,J,C,x.trans ((Mv.of_below AP).trans (y.trans I))⟩
theorem AbK:ST base O U V X Y E (.read n p):=by
 intro Q w T M v h t y K l m;cases y with
 |read _ _=>
 rw[BS] at l;have P:=h.lt;have z:=IN l;have B:(E.set n).length=2:=by unfold CE.set;split;rfl;split<;>rfl
 have i:(M.more [1]).words.length=M.words.length+1:=by rw[Bo];rfl
 have q:((M.more [1]).more [29]).words.length=M.words.length+2:=by rw[Bo,i];rfl
 have o:(AH E M.words.length (.read n p)).length=4:=by rw[AH];simp[B]
 rw[o] at m;have r:=fun b=>K3 h b [1] 3 (by simpa using(by omega:M.words.length+1<=1000000));have s: ∀a c,MK base O U V X Y a (M.more [1]) c-> ∀b,Ah 101 #[Al O,Ar (a.heap.size+1) 1 1] ((a.alloc b).alloc (.cells #[Aa 29] 3)) fun e I=>e=.returned (Aa (M.more [1]).words.length)/\ ∃A,MK base O U V X Y I ((M.more [1]).more [29]) A/\Mv O c A (a.alloc b) I:=fun a c g b=>by have:=EI (g.below ((Below.refl _ _).alloc (AA _) b)) [29] 3 (by rw[i];simp;omega);simpa using this
 have k:((M.more [1]).more [29]).more (Au (E.set n))=M.more (Au (AH E M.words.length (.read n p))):=by rw[CM,CM,AH];simp
 have f:=fun a c(g:MK base O U V X Y a ((M.more [1]).more [29]) c)=>Zl g z p (by rw[q];omega);rw[ER,ER,t,k] at f;clear k m o i q;unfold BZ at f;generalize(M.more [1]).more [29]=H at*;generalize M.more [1]=G at*;generalize M.more (Au (AH E M.words.length (.read n p)))=J at*;go_enter func132,ntmps132;go_wp2_with(first|(go_at_call 156;refine(f _ _ u).mono ?_;rintro e aa⟨rfl,F,x,D⟩)|(go_at_call 101;have _q:=d;refine(s _ _ d _).mono ?_;rintro e Z⟨rfl,S,u,j⟩;have L:=Mv.new d j 0;have N:=Mv.new d j 1)|(go_at_call 101;refine(r _).mono ?_;rintro e W⟨rfl,v1,d,C⟩;have R:=d.lt));go_end0;exact⟨rfl,F,x,C.trans ((Mv.of_below AP).trans (j.trans D))⟩
theorem AhP(args:List Ex):ST base O U V X Y E (.proc n p args):=by
 intro Q w N M v h u z k d m;cases z with
 |proc _ _ e i=>
 rename_i F P;rw[BS] at d;have I:=h.lt;have B:=IN d.1;have f:(M.more [1]).words.length=M.words.length+1:=by rw[Bo];rfl
 have o:(AH E M.words.length (.proc n p args)).length=(Hq E (M.words.length+1) n args).length+1:=by rw[AH];unfold Hq;simp
 rw[o] at m;have s:=fun a=>K3 h a [1] 3 (by simpa using(by omega:M.words.length+1<=1000000));have g:(M.more [1]).more (Au (Hq E (M.words.length+1) n args))=M.more (Au (AH E M.words.length (.proc n p args))):=by rw[CM,AH];unfold Hq;simp
 have l: ∀b c,MK base O U V X Y b (M.more [1]) c->Mv O v c w b-> ∀a,Ah 158 #[Al O,.agg #[.string n,Aa p],F] (b.alloc a) (BZ base O U V X Y (M.more (Au (AH E M.words.length (.proc n p args)))) c (b.alloc a)):=fun b c x A a=>by have r:BR Q w (b.alloc a):=(A.trans (Mv.of_below ((Below.refl _ _).alloc (AA _) a))).keepQ h k;have:=XO (Si args) p B (x.below ((Below.refl _ _).alloc (AA _) a)) u (e.keep r) (i.keep r) k d.2.1 (Uj _ d.2.2) (by rw[f];omega);rw[f,g] at this;exact this
 obtain⟨K,L,rfl⟩:=e.len;clear g m o f e i;unfold BZ at l;generalize M.more [1]=G at*;generalize M.more (Au (AH E M.words.length (.proc n p args)))=H at*;go_enter func132,ntmps132;go_wp2_with(first|(go_at_call 158;refine(l _ _ j q _).mono ?_;rintro t S⟨rfl,D,y,C⟩)|(go_at_call 101;refine(s _).mono ?_;rintro t R⟨rfl,v1,j,q⟩;have J:=j.lt));go_end0;exact⟨rfl,D,y,q.trans ((Mv.of_below AP).trans C)⟩
theorem AhQ(a d:Ex):ST base O U V X Y E (.put n p a d):=by
 intro Q w al M v h x L g i B;cases L with
 |put _ _ q s=>
 rename_i T H;rw[BS] at i;have ae:=q.cells;have ai:=Cf q.one;have af:=s.cells;have aj:=Cf s.one;have ag:=h.lt;have N:=IN i.1;have j:(M.more [1]).words.length=M.words.length+1:=by rw[Bo];rfl
 have o:(Er E (M.words.length+1) n a).length=(Ak E (M.words.length+1) a).length+3:=by unfold Er;simp
 have k:((M.more [1]).more (Au (Er E (M.words.length+1) n a))).words.length=M.words.length+1+(Ak E (M.words.length+1) a).length+3:=by rw[Bo,j,BF,o];omega
 have C:(AH E M.words.length (.put n p a d)).length=(Ak E (M.words.length+1) a).length+(Ak E (M.words.length+1+(Ak E (M.words.length+1) a).length+3) d).length+5:=by rw[AH];simp;omega
 rw[C] at B;have I:=fun e=>K3 h e [1] 3 (by simpa using(by omega:M.words.length+1<=1000000));have hF: ∀b c,MK base O U V X Y b (M.more [1]) c->Mv O v c w b-> ∀e,Ah 157 #[Al O,.agg #[.string n,Aa p],T] (b.alloc e) (BZ base O U V X Y ((M.more [1]).more (Au (Er E (M.words.length+1) n a))) c (b.alloc e)):=fun b c f r e=>by have:=Vn (IB a) p N (f.below ((Below.refl _ _).alloc (AA _) e)) x ((q.keep (r.keepQ h g)).keep (G9 f g e)) g (IU _ i.2.1) (by rw[j,o];omega);rw[j] at this;exact this
 have z: ∀b c,MK base O U V X Y b ((M.more [1]).more (Au (Er E (M.words.length+1) n a))) c->Mv O v c w b->Ah 155 #[Al O,H] b (BZ base O U V X Y (((M.more [1]).more (Au (Er E (M.words.length+1) n a))).more ((Ak E (M.words.length+1+(Ak E (M.words.length+1) a).length+3) d).map Int.ofNat)) c b):=fun b c f r=>by have:=IB d Q b H _ c f x (s.keep (r.keepQ h g)) g (IU _ i.2.2) (by rw[k];omega);rw[k] at this;exact this
 have A:(((M.more [1]).more (Au (Er E (M.words.length+1) n a))).more ((Ak E (M.words.length+1+(Ak E (M.words.length+1) a).length+3) d).map Int.ofNat)).words.length+1<=1000000:=by rw[Bo,k,BF];omega
 have u:(((M.more [1]).more (Au (Er E (M.words.length+1) n a))).more ((Ak E (M.words.length+1+(Ak E (M.words.length+1) a).length+3) d).map Int.ofNat)).more [9]=M.more (Au (AH E M.words.length (.put n p a d))):=by rw[CM,CM,CM,AH];unfold Er;simp
 have t:=fun b c(f:MK base O U V X Y b (((M.more [1]).more (Au (Er E (M.words.length+1) n a))).more ((Ak E (M.words.length+1+(Ak E (M.words.length+1) a).length+3) d).map Int.ofNat)) c)=>EI f [9] 3 (by simpa using A);rw[u] at t;clear u A B C j k o;unfold BZ at z hF;generalize((M.more [1]).more (Au (Er E (M.words.length+1) n a))).more ((Ak E (M.words.length+1+(Ak E (M.words.length+1) a).length+3) d).map Int.ofNat)=ab at*;generalize(M.more [1]).more (Au (Er E (M.words.length+1) n a))=aa at*;generalize M.more [1]=Z at*;generalize M.more (Au (AH E M.words.length (.put n p a d)))=ac at*;go_enter func132,ntmps132;go_wp2_with(first|(go_at_call 101;have _q:=y;refine(t _ _ y).mono ?_;rintro l ao⟨rfl,v4,K,R⟩)|(go_at_call 155;refine(z _ _ J D).mono ?_;rintro l an⟨rfl,ak,y,P⟩)|(go_at_call 157;refine(hF _ _ m F _).mono ?_;rintro l W⟨rfl,S,J,G⟩;have ad:=Mv.new m G 3;have D:Mv O v S w W:=F.trans ((Mv.of_below AP).trans G))|(go_at_call 101;refine(I _).mono ?_;rintro l am⟨rfl,v1,m,F⟩;have ah:=m.lt));go_end0;exact⟨rfl,v4,K,D.trans (P.trans R)⟩
end
end
theorem Vg(E:CE): ∀(b:List St)(p a:Nat)(c:St),b[a]? =some c->Bt E p (b.take (a+1))=Bt E p (b.take a)++AH E (p+(Bt E p (b.take a)).length) c
 |[],p,a,c,h=>by simp at h
 |d::b,p,0,c,h=>by simp at h;subst h;rw[EN,Eo,Eo,Bt,Bt,Bt];simp
 |d::b,p,a+1,c,h=>by rw[EN,EN,Bt,Bt,Vg E b _ a c (by simpa using h),DO,AG,Gz]
theorem Vh(E:CE): ∀(a:List St)(p b:Nat),(Bt E p (a.take b)).length<=(Bt E p a).length
 |[],p,b=>by simp
 |c::a,p,0=>by rw[Eo,Bt];simp
 |c::a,p,b+1=>by rw[EN,Bt,Bt,AG,AG];have:=Vh E a (p+(AH E p c).length) b;omega
theorem Aam: ∀{c:List St}{d:Nat}{a:St},DI c->c[d]? =some a->BS a
 |[],d,a,_,h=>by simp at h
 |e::c,0,a,b,h=>by rw[DI] at b;simp at h;subst h;exact b.1
 |e::c,d+1,a,b,h=>by rw[DI] at b;exact Aam b.2 (by simpa using h)
def Gj(E:CE)(p:Nat)(c:Ex)(t f:St):List Nat:=
 if f.isNil then Ak E p c++[23,p+(Ak E p c).length+2+(AH E (p+(Ak E p c).length+2) t).length]++AH E (p+(Ak E p c).length+2) t
 else Ak E p c++[23,p+(Ak E p c).length+2+(AH E (p+(Ak E p c).length+2) t).length+2]++AH E (p+(Ak E p c).length+2) t
  ++[22,p+(Ak E p c).length+2+(AH E (p+(Ak E p c).length+2) t).length+2+(AH E (p+(Ak E p c).length+2+(AH E (p+(Ak E p c).length+2) t).length+2) f).length]
  ++AH E (p+(Ak E p c).length+2+(AH E (p+(Ak E p c).length+2) t).length+2) f
def Je(E:CE)(p a:Nat)(c:Ex)(b:St):List Nat:=
 Ak E p c++[23,p+(Ak E p c).length+2+(AH E (p+(Ak E p c).length+2) b).length+2]++AH E (p+(Ak E p c).length+2) b++[22,a]
section
variable{base O U V X:Nat}{Y:Option Nat}{w I:World}{M:Ck}{v A:Value}
theorem Q0(M:Ck)(a:List Int)(d:Int)(b:List Int)(c:Nat):(((M.more a).more [d,-1]).more b).told ((M.more a).words.length+1) c=M.more (a++[d,(c:Int)]++b):=by have:=O6 (M.more a) d b c;rw[CM,this,CM];simp
theorem Pp(h:MK base O U V X Y w M v){jump:Nat}(c:jump+1<M.words.length)(b:M.words.length<=1000000):
 Ah 184 #[Al O,Aa jump] w fun a I=>a=.returned A6/\MK base O U V X Y I (M.told (jump+1) M.words.length) v/\Mv O v v w I:=N1 h c b
section
variable{E:CE}{c:Ex}{b:St}(K:ST base O U V X Y E b)
include K
theorem Aet{Q:AW}{t o:Value}(a:Nat)(h:MK base O U V X Y w M v)(y:M.E=E)(q:Ca Q w t c)(p:Dd Q w o b)(j: ∀b,Q b->b<base/\b≠O)(R:B0 c)(P:BS b)
 (C:M.words.length+(Je E M.words.length a c b).length<=1000000):
 Ah 160 #[Al O,.agg #[t,o],Aa a] w (BZ base O U V X Y (M.more (Au (Je E M.words.length a c b))) v w):=by
 have ai:=q.cells;have ah:=p.cells;have al:=Cf q.one;have ak:=Cf p.one;have aj:=h.lt;have D:(Je E M.words.length a c b).length=(Ak E M.words.length c).length+(AH E (M.words.length+(Ak E M.words.length c).length+2) b).length+4:=by unfold Je;simp;omega
 rw[D] at C;have s: ∀f,Ay w (w.alloc f):=fun f=>AP;have B:=fun f=>IB c Q (w.alloc f) t M v (h.below (s f)) y (q.keep (G9 h j f)) j (IU _ R) (by omega);have k:(M.more (Au (Ak E M.words.length c))).words.length=M.words.length+(Ak E M.words.length c).length:=by rw[Bo,BF]
 have l:((M.more (Au (Ak E M.words.length c))).more [23,-1]).words.length=M.words.length+(Ak E M.words.length c).length+2:=by rw[Bo,k];rfl
 have F:=fun d e(g:MK base O U V X Y d (M.more (Au (Ak E M.words.length c))) e)=>EI g [23,-1] 3 (by rw[k];simp;omega);have A: ∀d e,MK base O U V X Y d ((M.more (Au (Ak E M.words.length c))).more [23,-1]) e-> ∀f,Mv O v e (w.alloc f) d->Ah 132 #[Al O,o] d (BZ base O U V X Y (((M.more (Au (Ak E M.words.length c))).more [23,-1]).more (Au (AH E (M.words.length+(Ak E M.words.length c).length+2) b))) e d):=fun d e g f S=>by have:=K Q d o _ e g y (p.keep (((Mv.of_below (mb:=O) (v:=v) (s f)).trans S).keepQ h j)) j P (by rw[l];omega);rw[l] at this;exact this
 have x:((((M.more (Au (Ak E M.words.length c))).more [23,-1]).more (Au (AH E (M.words.length+(Ak E M.words.length c).length+2) b))).more [22,(a:Int)]).told ((M.more (Au (Ak E M.words.length c))).words.length+1) ((((M.more (Au (Ak E M.words.length c))).more [23,-1]).more (Au (AH E (M.words.length+(Ak E M.words.length c).length+2) b))).more [22,(a:Int)]).words.length=M.more (Au (Je E M.words.length a c b)):=by
  have H:(((M.more (Au (Ak E M.words.length c))).more [23,-1]).more (Au (AH E (M.words.length+(Ak E M.words.length c).length+2) b))).more [22,(a:Int)]=((M.more (Au (Ak E M.words.length c))).more [23,-1]).more (Au (AH E (M.words.length+(Ak E M.words.length c).length+2) b)++[22,(a:Int)]):=by rw[CM]
  rw[H,Q0]
  congr 1
  unfold Je;simp[Bo];omega
 have m:(((M.more (Au (Ak E M.words.length c))).more [23,-1]).more (Au (AH E (M.words.length+(Ak E M.words.length c).length+2) b))).words.length=M.words.length+(Ak E M.words.length c).length+2+(AH E (M.words.length+(Ak E M.words.length c).length+2) b).length:=by rw[Bo,l,BF]
 have G:=fun d e(g:MK base O U V X Y d (((M.more (Au (Ak E M.words.length c))).more [23,-1]).more (Au (AH E (M.words.length+(Ak E M.words.length c).length+2) b))) e)=>EI g [22,(a:Int)] 3 (by rw[m];simp;omega);have u:=fun d e(g:MK base O U V X Y d ((((M.more (Au (Ak E M.words.length c))).more [23,-1]).more (Au (AH E (M.words.length+(Ak E M.words.length c).length+2) b))).more [22,(a:Int)]) e)=>Pp g (jump:=(M.more (Au (Ak E M.words.length c))).words.length) (by rw[k,Bo,m];simp;omega) (by rw[Bo,m];simp;omega);rw[x] at u;clear x k l m C D;unfold BZ at B A;generalize M.more (Au (Je E M.words.length a c b))=ae at*;generalize(((M.more (Au (Ak E M.words.length c))).more [23,-1]).more (Au (AH E (M.words.length+(Ak E M.words.length c).length+2) b))).more [22,(a:Int)]=ad at*;generalize((M.more (Au (Ak E M.words.length c))).more [23,-1]).more (Au (AH E (M.words.length+(Ak E M.words.length c).length+2) b))=ac at*;generalize(M.more (Au (Ak E M.words.length c))).more [23,-1]=ab at*;generalize M.more (Au (Ak E M.words.length c))=aa at*;go_enter func160,ntmps160;go_wp2_with(first|(go_at_call 184;refine(u _ _ L).mono ?_;rintro i au⟨rfl,N,Z⟩)|(go_at_call 101;have _q:=z;refine(G _ _ z).mono ?_;rintro i ar⟨rfl,v4,L,W⟩)|(go_at_call 132;refine(A _ _ J _ (n.trans r)).mono ?_;rintro i aq⟨rfl,an,z,T⟩)|(go_at_call 101;refine(F _ _ I).mono ?_;rintro i ap⟨rfl,am,J,r⟩;have ag:=Mv.newW h n r 1)|(go_at_call 155;refine(B _).mono ?_;rintro i ao⟨rfl,v1,I,n⟩;have af:=Mv.new h n 1));go_end0;exact⟨rfl,v4,N,(Mv.of_below (s _)).trans (n.trans (r.trans (T.trans (W.trans Z))))⟩
theorem AhM:ST base O U V X Y E (.loop c b):=by
 intro Q w S M v h u z m f o;cases z with
 |loop i g=>
 rename_i F D;rw[BS] at f;have J:=i.cells;have I:=g.cells;have R:=Cf i.one;have P:=Cf g.one;have L:=h.lt;have j:(M.more [1]).words.length=M.words.length+1:=by rw[Bo];rfl
 have p:(AH E M.words.length (.loop c b)).length=(Je E (M.words.length+1) M.words.length c b).length+1:=by rw[AH];unfold Je;simp
 rw[p] at o;have s:=fun a=>K3 h a [1] 3 (by simpa using(by omega:M.words.length+1<=1000000));have k:(M.more [1]).more (Au (Je E (M.words.length+1) M.words.length c b))=M.more (Au (AH E M.words.length (.loop c b))):=by rw[CM,AH];unfold Je;simp
 have n: ∀d e,MK base O U V X Y d (M.more [1]) e->Mv O v e w d-> ∀a,Ah 160 #[Al O,.agg #[F,D],Aa M.words.length] (d.alloc a) (BZ base O U V X Y (M.more (Au (AH E M.words.length (.loop c b)))) e (d.alloc a)):=fun d e x A a=>by have r:BR Q w (d.alloc a):=(A.trans (Mv.of_below ((Below.refl _ _).alloc (AA _) a))).keepQ h m;have:=Aet K M.words.length (x.below ((Below.refl _ _).alloc (AA _) a)) u (i.keep r) (g.keep r) m f.1 f.2 (by rw[j];omega);rw[j,k] at this;exact this
 clear k o p j;unfold BZ at n;generalize M.more [1]=G at*;generalize M.more (Au (AH E M.words.length (.loop c b)))=H at*;go_enter func132,ntmps132;go_wp2_with(first|(go_at_call 160;refine(n _ _ l q _).mono ?_;rintro t W⟨rfl,C,y,B⟩)|(go_at_call 101;refine(s _).mono ?_;rintro t T⟨rfl,v1,l,q⟩;have N:=l.lt));go_end0;exact⟨rfl,C,y,q.trans ((Mv.of_below AP).trans B)⟩
end
theorem Abu{E:CE}{c:Ex}{t:St}(K:ST base O U V X Y E t){Q:AW}{s n:Value}(h:MK base O U V X Y w M v)(y:M.E=E)(q:Ca Q w s c)(p:Dd Q w n t)(g: ∀b,Q b->b<base/\b≠O)(N:B0 c)(L:BS t)
 (B:M.words.length+(Gj E M.words.length c t .nil).length<=1000000):
 Ah 159 #[Al O,.agg #[s,n,.nilIface]] w (BZ base O U V X Y (M.more (Au (Gj E M.words.length c t .nil))) v w):=by
 have ad:=q.cells;have ac:=p.cells;have ah:=Cf q.one;have ag:=Cf p.one;have af:=h.lt;have C:(Gj E M.words.length c t .nil).length=(Ak E M.words.length c).length+(AH E (M.words.length+(Ak E M.words.length c).length+2) t).length+2:=by unfold Gj;rw[Ag (by rfl)];simp;omega
 rw[C] at B;have r: ∀a,Ay w (w.alloc a):=fun a=>AP;have A:=fun a=>IB c Q (w.alloc a) s M v (h.below (r a)) y (q.keep (G9 h g a)) g (IU _ N) (by omega);have i:(M.more (Au (Ak E M.words.length c))).words.length=M.words.length+(Ak E M.words.length c).length:=by rw[Bo,BF]
 have j:((M.more (Au (Ak E M.words.length c))).more [23,-1]).words.length=M.words.length+(Ak E M.words.length c).length+2:=by rw[Bo,i];rfl
 have F:=fun d e(f:MK base O U V X Y d (M.more (Au (Ak E M.words.length c))) e)=>EI f [23,-1] 3 (by rw[i];simp;omega);have z: ∀d e,MK base O U V X Y d ((M.more (Au (Ak E M.words.length c))).more [23,-1]) e-> ∀a,Mv O v e (w.alloc a) d->Ah 132 #[Al O,n] d (BZ base O U V X Y (((M.more (Au (Ak E M.words.length c))).more [23,-1]).more (Au (AH E (M.words.length+(Ak E M.words.length c).length+2) t))) e d):=fun d e f a P=>by have:=K Q d n _ e f y (p.keep (((Mv.of_below (mb:=O) (v:=v) (r a)).trans P).keepQ h g)) g L (by rw[j];omega);rw[j] at this;exact this
 have k:(((M.more (Au (Ak E M.words.length c))).more [23,-1]).more (Au (AH E (M.words.length+(Ak E M.words.length c).length+2) t))).words.length=M.words.length+(Ak E M.words.length c).length+2+(AH E (M.words.length+(Ak E M.words.length c).length+2) t).length:=by rw[Bo,j,BF]
 have x:(((M.more (Au (Ak E M.words.length c))).more [23,-1]).more (Au (AH E (M.words.length+(Ak E M.words.length c).length+2) t))).told ((M.more (Au (Ak E M.words.length c))).words.length+1) (((M.more (Au (Ak E M.words.length c))).more [23,-1]).more (Au (AH E (M.words.length+(Ak E M.words.length c).length+2) t))).words.length=M.more (Au (Gj E M.words.length c t .nil)):=by
  rw[Q0,k]
  congr 1
  unfold Gj;rw[Ag (by rfl)];simp
 have u:=fun d e(f:MK base O U V X Y d (((M.more (Au (Ak E M.words.length c))).more [23,-1]).more (Au (AH E (M.words.length+(Ak E M.words.length c).length+2) t))) e)=>Pp f (jump:=(M.more (Au (Ak E M.words.length c))).words.length) (by rw[k,i];omega) (by rw[k];omega);rw[x] at u;clear x i j k B C;unfold BZ at A z;generalize M.more (Au (Gj E M.words.length c t .nil))=aa at*;generalize((M.more (Au (Ak E M.words.length c))).more [23,-1]).more (Au (AH E (M.words.length+(Ak E M.words.length c).length+2) t))=Z at*;generalize(M.more (Au (Ak E M.words.length c))).more [23,-1]=W at*;generalize M.more (Au (Ak E M.words.length c))=T at*;go_enter func159,ntmps159;go_wp2_with(first|(go_at_call 184;refine(u _ _ I).mono ?_;rintro o am⟨rfl,J,R⟩)|(go_at_call 132;refine(z _ _ H _ (l.trans m)).mono ?_;rintro o al⟨rfl,S,I,D⟩;have ae:=Mv.new h (l.trans (m.trans D)) 2)|(go_at_call 101;refine(F _ _ G).mono ?_;rintro o ak⟨rfl,ai,H,m⟩;have ab:=Mv.newW h l m 1)|(go_at_call 155;refine(A _).mono ?_;rintro o aj⟨rfl,v1,G,l⟩));go_end0;exact⟨rfl,S,J,(Mv.of_below (r _)).trans (l.trans (m.trans (D.trans R)))⟩
theorem Adl(M:Ck)(a b d:List Int)(c e:Nat):
 ((((((M.more a).more [23,-1]).more b).more [22,-1]).told ((M.more a).words.length+1) c).more d).told ((((M.more a).more [23,-1]).more b).words.length+1) e=M.more (a++[23,(c:Int)]++b++[22,(e:Int)]++d):=by
 have f:(((M.more a).more [23,-1]).more b).more [22,-1]=((M.more a).more [23,-1]).more (b++[22,-1]):=by rw[CM]
 rw[f,Q0];have g:M.more (a++[23,(c:Int)]++(b++[22,-1]))=(M.more (a++[23,(c:Int)]++b)).more [22,-1]:=by rw[CM];simp
 have h:(((M.more a).more [23,-1]).more b).words.length=(M.more (a++[23,(c:Int)]++b)).words.length:=by simp[Bo];omega
 rw[g,h,Q0]
section
variable{E:CE}{c:Ex}{t f:St}(N:ST base O U V X Y E t)(D:ST base O U V X Y E f)
include N D
theorem Abw{Q:AW}{R F:Value}{C:TypeId}{G:Value}(h:MK base O U V X Y w M v)(H:M.E=E)(J:Ca Q w R c)(I:Dd Q w F t)(ap:Dd Q w (.iface C G) f)(n: ∀b,Q b->b<base/\b≠O)(am:B0 c)(al:BS t)(an:BS f)(aq:f.isNil=false)
 (k:M.words.length+(Gj E M.words.length c t f).length<=1000000):
 Ah 159 #[Al O,.agg #[R,F,.iface C G]] w (BZ base O U V X Y (M.more (Au (Gj E M.words.length c t f))) v w):=by
 have a6:=J.cells;have a5:=I.cells;have bb:=Cf J.one;have ba:=Cf I.one;have a9:=h.lt
 have o:Gj E M.words.length c t f=Ak E M.words.length c++[23,M.words.length+(Ak E M.words.length c).length+2+(AH E (M.words.length+(Ak E M.words.length c).length+2) t).length+2]++AH E (M.words.length+(Ak E M.words.length c).length+2) t
  ++[22,M.words.length+(Ak E M.words.length c).length+2+(AH E (M.words.length+(Ak E M.words.length c).length+2) t).length+2+(AH E (M.words.length+(Ak E M.words.length c).length+2+(AH E (M.words.length+(Ak E M.words.length c).length+2) t).length+2) f).length]
  ++AH E (M.words.length+(Ak E M.words.length c).length+2+(AH E (M.words.length+(Ak E M.words.length c).length+2) t).length+2) f:=by
  unfold Gj;rw[Ae (by rw[aq];simp)]
 have B: ∀i,Ay w (w.alloc i):=fun i=>AP;have s:(M.more (Au (Ak E M.words.length c))).words.length=M.words.length+(Ak E M.words.length c).length:=by rw[Bo,BF]
 have ae:=fun i=>IB c Q (w.alloc i) R M v (h.below (B i)) H (J.keep (G9 h n i)) n (IU _ am) (by rw[o] at k;simp at k;omega);generalize ao:Ak E M.words.length c=a at*;have u:((M.more (Au a)).more [23,-1]).words.length=M.words.length+a.length+2:=by rw[Bo,s];rfl
 have ac: ∀e g,MK base O U V X Y e ((M.more (Au a)).more [23,-1]) g-> ∀i,Mv O v g (w.alloc i) e->Ah 132 #[Al O,F] e (BZ base O U V X Y (((M.more (Au a)).more [23,-1]).more (Au (AH E (M.words.length+a.length+2) t))) g e):=fun e g j i K=>by have:=N Q e F _ g j H (I.keep (((Mv.of_below (mb:=O) (v:=v) (B i)).trans K).keepQ h n)) n al (by rw[u];rw[o] at k;simp at k;omega);rw[u] at this;exact this
 generalize au:AH E (M.words.length+a.length+2) t=d at*;have x:(((M.more (Au a)).more [23,-1]).more (Au d)).words.length=M.words.length+a.length+2+d.length:=by rw[Bo,u,BF]
 have r:((((M.more (Au a)).more [23,-1]).more (Au d)).more [22,-1]).words.length=M.words.length+a.length+2+d.length+2:=by rw[Bo,x];rfl
 have y:(((((M.more (Au a)).more [23,-1]).more (Au d)).more [22,-1]).told ((M.more (Au a)).words.length+1) ((((M.more (Au a)).more [23,-1]).more (Au d)).more [22,-1]).words.length).words.length=M.words.length+a.length+2+d.length+2:=by rw[Md,r]
 have ad: ∀e g,MK base O U V X Y e (((((M.more (Au a)).more [23,-1]).more (Au d)).more [22,-1]).told ((M.more (Au a)).words.length+1) ((((M.more (Au a)).more [23,-1]).more (Au d)).more [22,-1]).words.length) g-> ∀i,Mv O v g (w.alloc i) e->Ah 132 #[Al O,.iface C G] e (BZ base O U V X Y ((((((M.more (Au a)).more [23,-1]).more (Au d)).more [22,-1]).told ((M.more (Au a)).words.length+1) ((((M.more (Au a)).more [23,-1]).more (Au d)).more [22,-1]).words.length).more (Au (AH E (M.words.length+a.length+2+d.length+2) f))) g e):=fun e g j i K=>by have:=D Q e (.iface C G) _ g j H (ap.keep (((Mv.of_below (mb:=O) (v:=v) (B i)).trans K).keepQ h n)) n an (by rw[y];rw[o] at k;simp at k;omega);rw[y] at this;exact this
 generalize ar:AH E (M.words.length+a.length+2+d.length+2) f=m at*;have z:((((((M.more (Au a)).more [23,-1]).more (Au d)).more [22,-1]).told ((M.more (Au a)).words.length+1) ((((M.more (Au a)).more [23,-1]).more (Au d)).more [22,-1]).words.length).more (Au m)).words.length=M.words.length+a.length+2+d.length+2+m.length:=by rw[Bo,y,BF]
 have T:((((((M.more (Au a)).more [23,-1]).more (Au d)).more [22,-1]).told ((M.more (Au a)).words.length+1) ((((M.more (Au a)).more [23,-1]).more (Au d)).more [22,-1]).words.length).more (Au m)).told ((((M.more (Au a)).more [23,-1]).more (Au d)).words.length+1) ((((((M.more (Au a)).more [23,-1]).more (Au d)).more [22,-1]).told ((M.more (Au a)).words.length+1) ((((M.more (Au a)).more [23,-1]).more (Au d)).more [22,-1]).words.length).more (Au m)).words.length=M.more (Au (Gj E M.words.length c t f)):=by
  rw[Adl,z,r,o]
  congr 1
  simp
 rw[o] at k;simp only[AG,Bg,Bm] at k;have ag:=fun e g(j:MK base O U V X Y e (M.more (Au a)) g)=>EI j [23,-1] 3 (by rw[s];simp;omega);have ah:=fun e g(j:MK base O U V X Y e (((M.more (Au a)).more [23,-1]).more (Au d)) g)=>EI j [22,-1] 3 (by rw[x];simp;omega);have af:=fun e g(j:MK base O U V X Y e ((((M.more (Au a)).more [23,-1]).more (Au d)).more [22,-1]) g)=>Pp j (jump:=(M.more (Au a)).words.length) (by rw[r,s];omega) (by rw[r];omega);have S:=fun e g(j:MK base O U V X Y e ((((((M.more (Au a)).more [23,-1]).more (Au d)).more [22,-1]).told ((M.more (Au a)).words.length+1) ((((M.more (Au a)).more [23,-1]).more (Au d)).more [22,-1]).words.length).more (Au m)) g)=>Pp j (jump:=(((M.more (Au a)).more [23,-1]).more (Au d)).words.length) (by rw[z,x];omega) (by rw[z];omega);rw[T] at S;clear T s u x r y z k o ao au ar;unfold BZ at ae ac ad;generalize M.more (Au (Gj E M.words.length c t f))=a3 at*;generalize(((((M.more (Au a)).more [23,-1]).more (Au d)).more [22,-1]).told ((M.more (Au a)).words.length+1) ((((M.more (Au a)).more [23,-1]).more (Au d)).more [22,-1]).words.length).more (Au m)=a2 at*;generalize((((M.more (Au a)).more [23,-1]).more (Au d)).more [22,-1]).told ((M.more (Au a)).words.length+1) ((((M.more (Au a)).more [23,-1]).more (Au d)).more [22,-1]).words.length=a1 at*;generalize(((M.more (Au a)).more [23,-1]).more (Au d)).more [22,-1]=a0 at*;generalize((M.more (Au a)).more [23,-1]).more (Au d)=az at*;generalize(M.more (Au a)).more [23,-1]=ay at*;generalize M.more (Au a)=ax at*;go_enter func159,ntmps159;go_wp2_with(first|(go_at_call 184;have _q:=ab;refine(S _ _ ab).mono ?_;rintro l bk⟨rfl,ak,aw⟩)|(go_at_call 132;have _q:=aa;refine(ad _ _ aa _ (p.trans (q.trans (A.trans (L.trans P))))).mono ?_;rintro l bj⟨rfl,v6,ab,av⟩)|(go_at_call 184;have _q:=Z;refine(af _ _ Z).mono ?_;rintro l bi⟨rfl,aa,P⟩;have a8:=Mv.new h (p.trans (q.trans (A.trans (L.trans P)))) 2)|(go_at_call 101;have _q:=W;refine(ah _ _ W).mono ?_;rintro l bh⟨rfl,v4,Z,L⟩)|(go_at_call 132;refine(ac _ _ aj _ (p.trans q)).mono ?_;rintro l bg⟨rfl,bd,W,A⟩;have a7:=Mv.new h (p.trans (q.trans A)) 2)|(go_at_call 101;refine(ag _ _ ai).mono ?_;rintro l bf⟨rfl,bc,aj,q⟩;have a4:=Mv.newW h p q 1)|(go_at_call 155;refine(ae _).mono ?_;rintro l be⟨rfl,v1,ai,p⟩));go_end0;exact⟨rfl,v6,ak,(Mv.of_below (B _)).trans (p.trans (q.trans (A.trans (L.trans (P.trans (av.trans aw))))))⟩
theorem AhL:ST base O U V X Y E (.ite c t f):=by
 intro Q w ak M v h q I n d x;cases I with
 |ite l k e=>
 rename_i W Z B;rw[BS] at d;have ad:=l.cells;have ac:=k.cells;have ae:=e.cells;have ai:=Cf l.one;have ah:=Cf k.one;have aj:=Cf e.one;have af:=h.lt;have g:(M.more [1]).words.length=M.words.length+1:=by rw[Bo];rfl
 have o:AH E M.words.length (.ite c t f)=[1]++Gj E (M.words.length+1) c t f:=by rw[AH];unfold Gj;split<;>rfl
 have y:(AH E M.words.length (.ite c t f)).length=(Gj E (M.words.length+1) c t f).length+1:=by rw[o];simp
 rw[y] at x;have F:=fun a=>K3 h a [1] 3 (by simpa using(by omega:M.words.length+1<=1000000));have p:(M.more [1]).more (Au (Gj E (M.words.length+1) c t f))=M.more (Au (AH E M.words.length (.ite c t f))):=by rw[CM,o];simp
 have u: ∀b j,MK base O U V X Y b (M.more [1]) j->Mv O v j w b-> ∀a,Ah 159 #[Al O,.agg #[W,Z,B]] (b.alloc a) (BZ base O U V X Y (M.more (Au (AH E M.words.length (.ite c t f)))) j (b.alloc a)):=fun b j r L a=>by
  have i:BR Q w (b.alloc a):=(L.trans (Mv.of_below ((Below.refl _ _).alloc (AA _) a))).keepQ h n;rw[<-p];by_cases m:f.isNil=true
  ·have K:f=.nil:=by cases f<;>first|rfl|(simp[St.isNil] at m)
   subst K;cases e;have:=Abu N (r.below ((Below.refl _ _).alloc (AA _) a)) q (l.keep i) (k.keep i) n d.1 d.2.1 (by rw[g];omega);rw[g] at this;exact this
  ·have P:f.isNil=false:=by simpa using m
   have J:=d.2.2.resolve_left m;have S: ∃A C,B=.iface A C:=by cases e<;>first|exact⟨_,_,rfl⟩|(simp[St.isNil] at m)
   obtain⟨A,C,rfl⟩:=S;have:=Abw N D (r.below ((Below.refl _ _).alloc (AA _) a)) q (l.keep i) (k.keep i) (e.keep i) n d.1 d.2.1 J P (by rw[g];omega);rw[g] at this;exact this
 clear p x y g o;unfold BZ at u;generalize M.more [1]=aa at*;generalize M.more (Au (AH E M.words.length (.ite c t f)))=ab at*;go_enter func132,ntmps132;go_wp2_with(first|(go_at_call 159;refine(u _ _ s z _).mono ?_;rintro G am⟨rfl,T,H,R⟩)|(go_at_call 101;refine(F _).mono ?_;rintro G al⟨rfl,v1,s,z⟩;have ag:=s.lt));go_end0;exact⟨rfl,T,H,z.trans ((Mv.of_below AP).trans R)⟩
end
theorem Zt{E:CE}{c:List St}(K: ∀s∈c,ST base O U V X Y E s):SL base O U V X Y E c:=by
 intro Q w ak d M v h H n r k ah L P;have ai:=h.lt;have ac:=r.1;obtain⟨ad,ae,rfl⟩:=n.len
 have j:Hid (∀(a:Nat)(l:a<d.length)(wr:World)(e:Value),MK base O U V X Y wr (M.more (Au (Bt E M.words.length (c.take a)))) e->Mv O v e w wr->
  Ah 132 #[Al O,d[a]] wr (fun f I=>f=.returned A6/\ ∃A,MK base O U V X Y I (M.more (Au (Bt E M.words.length (c.take (a+1))))) A/\Mv O e A wr I)):=by
  intro a l wr e i g;have y:a<c.length:=by omega
  have o:c[a]? =some c[a]:=Bb y;have C:(M.more (Au (Bt E M.words.length (c.take a)))).words.length=M.words.length+(Bt E M.words.length (c.take a)).length:=by rw[Bo,BF]
  have F:=Vg E c M.words.length a _ o;have T:=Vh E c M.words.length (a+1);rw[F,AG] at T;have:=K _ (D4 y) Q wr d[a] _ e i H ((r.2 a _ _ (Bb l) o).keep (g.keepQ h k)) k (Aam L o) (by rw[C];omega);rw[C] at this;unfold BZ at this;rw[CM,<-E6,<-F] at this;exact this
 have HS:Hid (B8 Q w (.slice ad d.length ae) d):=n;have aj:d.length<=602:=by omega
 have t:M.more (Au (Bt E M.words.length (c.take 0)))=M:=by rw[Eo,Bt];unfold Ck.more;simp
 have G:Hid (∀a,¬a<d.length->c.take a=c):=fun a l=>I1 (by omega);clear ac P n;generalize u:(fun c=>M.more (Au (Bt E M.words.length c)))=q at*;have m: ∀c,M.more (Au (Bt E M.words.length c))=q c:=fun c=>by rw[<-u]
 rw[m] at t⊢;simp only[m] at j;clear u m;go_enter func100,ntmps100;go_wp2;go_loopw [5,8] (fun _ p wr=> ∃(a:Nat)(e:Value),p=Aa a/\a<=d.length/\MK base O U V X Y wr (q (c.take a)) e/\Mv O v e w wr) (fun _ p _=>d.length -(intOf p).toNat)
 case atStart=>exact⟨0,v,rfl,B6 _,by rw[t];exact h,Mv.refl _ _ _⟩
 case round=>
  obtain⟨a,e,rfl,l,i,g⟩:=hrel;by_cases B:a<d.length
  ·have z:a<d.length:=B;obtain⟨b,cap,W,D,R,x⟩:=HS.out.at z;injection W with Z aa ab;subst Z ab;clear aa
   have ag:wr.cell? (Ac b a)=some d[a]:=(g.1.cell R (by
    rintro(f|f)
    ·exact(k b D).2 f
    ·have:=(h.row b f).1;have:=(k b D).1;omega) a).trans x
   have N:=j.out a z wr e i g;clear x j HS;generalize d[a]=al at*;go_wp2_with(go_at_call 132;refine N.mono ?_;rintro f am⟨rfl,af,J,S⟩)
   go_roundw
   case rel=>exact⟨a+1,af,by go_num,by omega,J,g.trans S⟩
   case measure=>simp[intOf];omega
  ·rw[G.out a B] at i;clear j HS;go_wp2;go_end0;exact⟨rfl,e,i,g⟩
mutual
theorem QP{E:CE}: ∀s,ST base O U V X Y E s
 |.nil=>fun Q w u M v h m q o g r=>by rw[BS] at g;exact g.elim
 |.assign n p a=>AhI n p a
 |.put n p l a=>AhQ n p l a
 |.proc n p args=>AhP n p args
 |.ite c t f=>AhL (QP t) (QP f)
 |.loop c b=>AhM (QP b)
 |.block d=>AhJ (Zt (T9 d))
 |.write a=>AbL a
 |.read n p=>AbK n p
theorem T9{E:CE}: ∀(d:List St),∀a∈d,ST base O U V X Y E a
 |[]=>fun a e=>by simp at e
 |i::d=>fun a e=>by
  have j:=QP (E:=E) i;have k:=T9 (E:=E) d;rcases C0.1 e with h|h
  ·rw[h];exact j
  ·exact k a h
end
theorem TX{E:CE}(a:List St):SL base O U V X Y E a:=Zt (T9 a)
variable{Z:Nat}{c:Nat×Nat}{L:Ds}{E:Ao}{Q:AW}
theorem PL.growG(h:PL Z U V X Y w c L){i:Nat}{f:Af->Nat×Nat}(l:Dh I U i f)(m:w.grownBy I (some U)):PL Z U i X Y I c {L with g:=f}:=by
 have g:=h.lt;have d: ∀b,b<w.heap.size->b≠U->I.heap[b]? =w.heap[b]? :=fun b j k=>m.block b j (by simpa using k);have a: ∀o,I.cell? (Ac Z o)=w.cell? (Ac Z o):=fun o=>World.cell?_of_block (w:=w) (d Z g (Ey h.gne))
 exact⟨by rw[a];exact h.code,by rw[a];exact h.at_,by rw[a];exact h.gl,by rw[a];exact h.lo,by rw[a];exact h.rs,fun o=>by rw[World.frozen?_of_block (a:=(Ac Z o)) (w:=w) (d Z g (Ey h.gne))];exact h.frz o,
  l,fun b e=>(h.lmap b e).block (d b (h.lmap b e).lt (h.lne b e).2),h.lnil,h.gne,h.lne⟩
theorem PL.growL{O:Nat}(h:PL Z U V X (some O) w c L){j:Nat}{i:Af->Nat×Nat}(m:Dh I O j i)(n:w.grownBy I (some O)):PL Z U V j (some O) I c {L with l:=i}:=by
 have g:=h.lt;have e: ∀b,b<w.heap.size->b≠O->I.heap[b]? =w.heap[b]? :=fun b k l=>n.block b k (by simpa using l);have f:=h.lne O rfl;have a: ∀o,I.cell? (Ac Z o)=w.cell? (Ac Z o):=fun o=>World.cell?_of_block (w:=w) (e Z g (Ey f.1))
 refine⟨by rw[a];exact h.code,by rw[a];exact h.at_,by rw[a];exact h.gl,by rw[a];exact h.lo,by rw[a];exact h.rs,fun o=>by rw[World.frozen?_of_block (a:=(Ac Z o)) (w:=w) (e Z g (Ey f.1))];exact h.frz o,
  h.gmap.block (e U h.gmap.lt (Ey f.2)),fun b d=> ?_,(fun d=>by cases d),h.gne,h.lne⟩
 injection d with d;subst d;exact m
theorem KC{f:Option (Nat×Nat)}(b:Nz f){c:Nat×Nat}(h:(AF f c).1=0):c.1=0/\f=none:=by
 unfold AF at h;by_cases a:c.1=0
 ·rw[Ag a] at h;cases f with
  |none=>exact⟨a,rfl⟩
  |some d=>exact absurd h (b d rfl)
 ·rw[Ae a] at h;exact absurd h a
theorem Z6{c:Nat×Nat}{here:Bool}{f:Af->Nat×Nat}(e:c.1=0-> ∀n,f n=Io (E.row here) n)(n:Af)(p kind args:Nat):
 AF (if(f n).1=0 then none else some (6,p)) c=AF (Be E here n p kind args).2 c:=by
 by_cases h:c.1=0
 ·have b:=e h n;unfold Be;by_cases a:(f n).1=0
  ·rw[b] at a;have d:=(ZP _ _).1 a;rw[b,Ag a,d];rfl
  ·rw[Ae a];rw[b] at a;cases d:A9 (E.row here) n with
   |none=>exact absurd ((ZP _ _).2 d) a
   |some g=>rfl
 ·unfold AF;rw[Ae h,Ae h]
theorem R0{a:Bool}{n:Af}{p kind args:Nat}(h:(Be E a n p kind args).2=none):(Be E a n p kind args).1=E.add a ⟨n,kind,args⟩:=by
 unfold Be at h⊢;split at h
 ·cases h
 ·rename_i b;rw[Ae b]
theorem Vz(E:Ao)(a:Bool)(n:Af)(p kind args:Nat):(Be E a n p kind args).1.inside=E.inside:=by
 unfold Be;split
 ·rfl
 ·unfold Ao.add;cases a<;>rfl
def Hc(L:Ds):Ds:={L with res:=⟨#[]⟩}
def Pd(Z U V X:Nat)(Y:Option Nat)(f:Af)(O:Nat)(d:Ao×Option (Nat×Nat))(c:Nat×Nat)(w:World)(e:Ending)(I:World):Prop:=
 e=.returned A6/\ ∃a,PL Z U V X Y I (AF d.2 c) a/\((AF d.2 c).1=0->C8 (Hc a) d.1)/\a.res=f/\Fr (fun b=>b=Z\/b=O) w I/\(Y=none->a.l=fun _=>(0,0))
theorem R7(h:PL Z U V X Y w c L)(e:c.1=0->C8 (Hc L) E)(k:E.inside=none)(q:V<maxLen){n:Af}(o:n.size<=maxLen)(p kind args:Nat)(m:Y=none->L.l=fun _=>(0,0)):
 Ah 147 #[Al Z,.map (some U),.agg #[.string n,Aa p],Ci (kind+1,args)] w (Pd Z U (V+1) X Y L.res U (Be E false n p kind args) c w):=by
 refine(VA h h.gmap h.gne q o p (kind+1,args)).mono ?_;rintro r I⟨rfl,s,b,l,j,d⟩;have f:=Z6 (E:=E) (here:=false) (f:=L.g) (c:=c) (fun a=>(e a).g) n p kind args;rw[f] at b;refine⟨rfl,_,b.growG j d,fun a=> ?_,rfl,(Fr.of_par l (.inl rfl)).trans (Fr.of_grown d (.inr rfl)),m⟩;obtain⟨g,i⟩:=KC (Ji _ _ _ _ _ _) a;rw[R0 i];exact(e g).addGlob k n kind args
theorem AbO{O:Nat}(h:PL Z U V X (some O) w c L)(e:c.1=0->C8 (Hc L) E)(o:X<maxLen){n:Af}(m:n.size<=maxLen)(p:Nat):
 Ah 147 #[Al Z,.map (some O),.agg #[.string n,Aa p],Ci (1,0)] w (Pd Z U V (X+1) (some O) L.res O (Be E true n p 0 0) c w):=by
 refine(VA h (h.lmap O rfl) (h.lne O rfl).1 o m p (1,0)).mono ?_;rintro q I⟨rfl,r,b,l,j,d⟩;have f:=Z6 (E:=E) (here:=true) (f:=L.l) (c:=c) (fun a=>(e a).l) n p 0 0;rw[f] at b;refine⟨rfl,_,b.growL j d,fun a=> ?_,rfl,(Fr.of_par l (.inl rfl)).trans (Fr.of_grown d (.inr rfl)),fun k=>by cases k⟩;obtain⟨g,i⟩:=KC (Ji _ _ _ _ _ _) a;rw[R0 i];exact(e g).addHere n
theorem XD: ∀(c:List A8)(E:Ao)(b:Nat)(a:Af×Nat),c[b]? =some a->
 AX E (c.take (b+1))=((Be (AX E (c.take b)).1 true a.1 a.2 0 0).1,(AX E (c.take b)).2.or (Be (AX E (c.take b)).1 true a.1 a.2 0 0).2)
 |[],E,b,a,h=>by simp at h
 |d::c,E,0,a,h=>by simp at h;subst h;rw[EN,Eo,Eo,AX,AX,AX];cases(Be E true d.1 d.2 0 0).2<;>rfl
 |d::c,E,b+1,a,h=>by rw[EN,EN,AX,AX,XD c _ b a (by simpa using h)];cases(Be E true d.1 d.2 0 0).2<;>rfl
theorem Tj: ∀(a:List A8)(E:Ao),(AX E a).1.glob=E.glob
 |[],E=>rfl
 |b::a,E=>by
  rw[AX];refine(Tj a _).trans ?_;unfold Be;split
  ·rfl
  ·rfl
section
variable(h:PL Z U V X Y w c L)
include h
theorem PL.setEnv(d:Option Nat)(j:Nat)(f:Af->Nat×Nat)(g:Af)(e: ∀b,d=some b->Dh w b j f/\b≠Z/\b≠U)(k:d=none-> ∀n,f n=(0,0)):
 PL Z U V j d ((w.setCell (Ac Z 3) (.map d)).setCell (Ac Z 4) (.string g)) c ⟨L.g,f,g⟩:=by
 have i: ∀b,b≠Z->((w.setCell (Ac Z 3) (.map d)).setCell (Ac Z 4) (.string g)).heap[b]? =w.heap[b]? :=fun b a=>by rw[Below.heap_setCell _ _ _ _ a,Below.heap_setCell _ _ _ _ a]
 refine⟨?_,?_,?_,?_,?_,?_,h.gmap.block (i _ h.gne),fun b a=>(e b a).1.block (i _ (e b a).2.1),k,h.gne,fun b a=>(e b a).2⟩
 ·rw[Bh _ _ _ _ (by simp),Bh _ _ _ _ (by simp)];exact h.code
 ·rw[Bh _ _ _ _ (by simp),Bh _ _ _ _ (by simp)];exact h.at_
 ·rw[Bh _ _ _ _ (by simp),Bh _ _ _ _ (by simp)];exact h.gl
 ·rw[Bh _ _ _ _ (by simp)];exact DW _ _ _ h.lo
 ·exact DW _ _ _ (by rw[Bh _ _ _ _ (by simp)];exact h.rs)
 ·intro o;rw[Cu,Cu];exact h.frz o
theorem PL.enter(d:Af):
 PL Z U V 0 (some w.heap.size) (((w.alloc (.map #[] 0)).setCell (Ac Z 3) (.map (some w.heap.size))).setCell (Ac Z 4) (.string d)) c ⟨L.g,fun _=>(0,0),d⟩:=by
 have f:=h.lt;have e:=h.gmap.lt;refine(h.below ((Below.refl _ _).alloc (AA _) (.map #[] 0))).setEnv (some w.heap.size) 0 _ d (fun b a=> ?_) (fun a=>by cases a);injection a with a;subst a;exact⟨Tr w,by omega,by omega⟩
theorem PL.leave:PL Z U V 0 none ((w.setCell (Ac Z 3) (.map none)).setCell (Ac Z 4) (.string ⟨#[]⟩)) c ⟨L.g,fun _=>(0,0),⟨#[]⟩⟩:=
 h.setEnv none 0 _ _ (fun b a=>by cases a) (fun _ _=>rfl)
end
theorem AgM{b:Ds}{a:Ao}{c:Af}(h:C8 (Hc b) a)(f:b.res=c){l:List Sy}{y:Sy}(e:a.glob=l++[y])(g:c=if y.kind=3 then y.name else⟨#[]⟩):C8 b a.enter:=by
 refine⟨h.g,h.l,?_,h.vars⟩;rw[f,g];unfold Np;have d:a.glob.getD (a.glob.length -1) default=y:=by rw[e,Dg,CS (by simp)];simp
 show _=if(a.glob.getD (a.glob.length -1) default).kind=3 then(a.glob.getD (a.glob.length -1) default).name else⟨#[]⟩;rw[d]
theorem AgN{L2:Ds}{a:Ao}(h: ∀n,L2.g n=Io a.glob n):C8 ⟨L2.g,fun _=>(0,0),⟨#[]⟩⟩ a.leave:=by
 refine⟨h,fun n=> ?_,rfl,fun c b=> ?_⟩
 ·rfl
 ·have:c∈([]:List Sy):=b;cases this
theorem AgO{b:Ds}{a:Ao}{d:Af}(h:C8 (Hc b) a)(c:a.here=[]):C8 (Hc ⟨b.g,fun _=>(0,0),d⟩) a:=by refine⟨h.g,fun n=> ?_,h.res,h.vars⟩;rw[c];rfl
theorem X6: ∀(J:List A8)(a:Nat)(b:Af×Nat),J[a]? =some b->(E4 J)[a*2]? =some (.string b.1)/\(E4 J)[a*2+1]? =some (Aa b.2)
 |[],a,b,h=>by simp at h
 |c::d,0,b,h=>by simp at h;subst h;exact⟨rfl,rfl⟩
 |c::d,a+1,b,h=>by have K:=X6 d a b (by simpa using h);have e:E4 (c::d)=.string c.1::Aa c.2::E4 d:=rfl;rw[e,show(a+1)*2=a*2+1+1 by omega,J4,J4,J4,J4];exact K
section
variable{Q:AW}{w:World}{v:Value}{J:List A8}(h:Dt Q w v J)
include h
theorem Dt.at{a:Nat}(d:a<J.length): ∃b cap,v=Ar b J.length cap/\Q b/\b<w.heap.size/\w.cell? (Ac b (a*2))=some (.string J[a].1)/\w.cell? (Ac b (a*2+1))=some (Aa J[a].2):=by
 rcases h with⟨_,rfl⟩|⟨b,cap,g,f,e,c⟩
 ·simp at d
 ·have:=X6 J a _ (Bb d);exact⟨b,cap,g,f,e,c _ _ this.1,c _ _ this.2⟩
theorem Dt.len: ∃a cap,v=.slice a J.length cap:=by
 rcases h with⟨rfl,rfl⟩|⟨b,cap,c,_⟩
 ·exact⟨none,0,rfl⟩
 ·exact⟨_,cap,c⟩
end
theorem Yc{c:Ao}{J:List A8}{a O:Nat}{f:Nat×Nat}{g:Ds}(m:PL Z U V X (some O) w (AF (AX c (J.take a)).2 f) g)
 (q:(AF (AX c (J.take a)).2 f).1=0->C8 (Hc g) (AX c (J.take a)).1)(p:X<maxLen){d:Af×Nat}(r:J[a]? =some d)(o:d.1.size<=maxLen){W:World}(n:Ay w W):
 Ah 147 #[Al Z,.map (some O),.agg #[.string d.1,Aa d.2],Ci (1,0)] W fun h I=>h=.returned A6/\ ∃e,PL Z U V (X+1) (some O) I (AF (AX c (J.take (a+1))).2 f) e/\
  ((AF (AX c (J.take (a+1))).2 f).1=0->C8 (Hc e) (AX c (J.take (a+1))).1)/\e.res=g.res/\Fr (fun b=>b=Z\/b=O) W I:=by
 refine(AbO (m.below n) q p o d.2).mono ?_;rintro h I⟨rfl,e,i,j,k,l,_⟩;rw[XD J c a d r];rw[FT _ _ (IQ _ _)] at i j;exact⟨rfl,e,i,j,k,l⟩
theorem Aeq(E:Ao)(kind:Nat)(a:Ro)(c:Nat×Nat):AF (DJ E kind a).2 c=
 AF (Bz (AX (AX (Be E false a.name.1 a.name.2 kind a.params.length).1 a.params).1 a.locals).1.enter a.body)
  (AF (AX (AX (Be E false a.name.1 a.name.2 kind a.params.length).1 a.params).1 a.locals).2
    (AF (AX (Be E false a.name.1 a.name.2 kind a.params.length).1 a.params).2 (AF (Gk a.params.length a.name.2) (AF (Be E false a.name.1 a.name.2 kind a.params.length).2 c)))):=by
 unfold DJ Fg;have b:=Ji E false a.name.1 a.name.2 kind a.params.length;have d:=OE a.params.length a.name.2;have e:=IQ a.params (Be E false a.name.1 a.name.2 kind a.params.length).1;have f:=IQ a.locals (AX (Be E false a.name.1 a.name.2 kind a.params.length).1 a.params).1;rw[FT _ _ b,FT _ _ (b.or d),FT _ _ ((b.or d).or e),FT _ _ (((b.or d).or e).or f)]
theorem RZ(E:Ao)(n:Af)(p kind args:Nat):(Be E false n p kind args).1.here=E.here:=by unfold Be;split<;>rfl
theorem AbM{E:Ao}{n:Af}{p kind args:Nat}(h:(Be E false n p kind args).2=none):(Be E false n p kind args).1.glob=E.glob++[⟨n,kind,args⟩]:=by rw[R0 h];rfl
structure G4(Z U V:Nat)(w:World)(c:Nat×Nat)(L:Ds)(E:Ao):Prop where
 pl:PL Z U V 0 none w c L
 rep:c.1=0->C8 L E
 res:L.res=⟨#[]⟩
 l:L.l=fun _=>(0,0)
 ins:E.inside=none
 here:E.here=[]
def F7(Z U V:Nat)(a:Ao×Option (Nat×Nat))(c:Nat×Nat)(w:World)(e:Ending)(I:World):Prop:=
 e=.returned A6/\(∃d,G4 Z U (V+1) I (AF a.2 c) d a.1)/\Fr (fun b=>b=Z\/b=U) w I
theorem Qo{L:Ds}(h:L.res=⟨#[]⟩):Hc L=L:=by cases L;simp only[Hc] at*;rw[h]
end
