/- The reference's walk through statements that begin with a na -/
import Derived.Test.YtklobognaldjpaaGreatCWk9
set_option maxRecDepth 1000000
set_option maxHeartbeats 8000000
namespace Go.Proofs.YtklobognaldjpaaGreat
open Go.Proofs.Tryz
open Go.RowKit
def Du(U V cap:Nat)(T:List Az)(m:Option Nm)(b:PS)(w:World)(d:Ending)(c:World):Prop:=
 ∃a:Int,d=.returned (Aa a)/\At b a/\RW U V cap T m c b/\As U w c
def Ls(U V cap:Nat)(T:List Az)(m:Option Nm)(b:Nat)(d:Int)(e:PS->PS):Prop:=
 ∀w s a(c:Bool),RW U V cap T m w s->An T s->Av T s->At s a->Ah b #[Al U,Aa a,Aa d,.bool c] w (Du U V cap T m (e s) w)
section
variable{U V cap:Nat}{T:List Az}{m:Option Nm}{n:Nm}{w:World}{s:PS}{d:Int}{Z:AU}
theorem Abe{b:Option Ao}{c s:PS}{a:Int}(h:At s a):At (FK T b c s) a:=by
 unfold FK;split
 ·exact h
 ·split
  ·exact h
  ·exact N2 h
theorem FW(s:PS):At s s.next:=fun _=>rfl
section
variable(Y:AR T)(hF:E8 U V cap T m 177 (d+1) Z)(D:AM T Z)(I:SM T Z)(X:Cj T)(J:0<=d)(K:d<=14)(h:RW U V cap T m w s)
include Y hF D I X J K h
theorem Af3(r:s.code=0)(v:An T (Ab (Ab s)))(af:Bool):
 Ah 196 #[Al U,Aa s.next,Aa d,.bool af] w (Du U V cap T m (Z (Am T BK (Cg T Z (Cs T (Ax m) s 1 (Ab (Ab s)))).2)).2 w):=by
 have aj:=h.size;have ai:s.next+2<T.length:=v;have O:An T s:=by show s.next<T.length;omega
 have ae:Av T (Ab (Ab s)):=fun h=>absurd r h;have t:=(LU Y (Ax m) s 1 v).1;have y:=KB (Ax m) s 1 ae;have Q:At (Cs T (Ax m) s 1 (Ab (Ab s))) ((s.next:Int)+2):=N2 (fun _=>by show _=((s.next+1+1:Nat):Int);omega);have g:=ND h O r 1;have J: ∀a,(∀ag,RW U V cap T m a (Cs T (Ax m) s 1 {s with next:=ag}))->RW U V cap T m a (Cs T (Ax m) s 1 (Ab (Ab s))):=fun a g=>g (s.next+2);generalize Cs T (Ax m) s 1 (Ab (Ab s))=e at*;have x:=D _ t;have A:=I _ y;have K:=fun a i(c:RW U V cap T m a e)=>hF a e _ i c t y Q;have E:=fun a C(R:At (Z e).2 C)(c:RW U V cap T m a (Z e).2)=>FD Y c x.1 A.1 C R Cn (X [93] (by decide));have l:Hid ((Cg T Z e).2=Am T Cn (Z e).2):=rfl;have u:=(Ch Y (f:=Cn) Ai x.1).1;have z:=(Dq Y (f:=Cn) Ai A.1).1;rw[l.out];clear l;generalize Am T Cn (Z e).2=j at*;have F:=fun a(c:RW U V cap T m a j)=>FD Y c u z j.next (FW _) BK (X [58,61] (by decide));have P:=(Ch Y (f:=BK) Ai u).1;have ad:=(Dq Y (f:=BK) Ai z).1;generalize Am T BK j=k at*;have L:=fun a i(c:RW U V cap T m a k)=>hF a k k.next i c P ad (FW _);go_enter func196,ntmps196;go_wp2_with(first|(go_at_call 194;refine g.mono ?_;rintro b ap⟨am,rfl,p,ac,_⟩;have q:=J _ p;clear p)|(go_at_call 176;refine(J1 q _).mono ?_;rintro b aw⟨rfl,B⟩;obtain rfl:=B.symm;clear B)|(go_at_call 178;refine(Ht o _).mono ?_;rintro b ah⟨rfl,f⟩;obtain rfl:=f.symm;clear f)|(go_at_call 178;refine(Ht n _).mono ?_;rintro b ah⟨rfl,f⟩;obtain rfl:=f.symm;clear f)|(go_at_call 177;refine(L _ _ n).mono ?_;rintro b av⟨ao,al,rfl,N,o,ab⟩)|(go_at_call 123;refine(F _ H).mono ?_;rintro b au⟨rfl,n,aa⟩)|(go_at_call 123;refine(E _ _ M.1 G).mono ?_;rintro b ar⟨rfl,H,W⟩)|(go_at_call 177;refine(K _ _ q).mono ?_;rintro b aq⟨an,ak,rfl,M,G,S⟩));go_ret;exact⟨_,rfl,N.1,o,(((ac.trans S).trans W).trans aa).trans ab⟩
theorem Afe(C:An T s)(q:s.code=0)(av:AN T .name s=true)(ae:Bool):
 Ah 173 #[Al U,Aa s.next,Aa d,.bool ae] w (Du U V cap T m (DE T (Ax m) Z s).2 w):=by
 have a3:=h.size;have a1:s.next<T.length:=C;have ac:=h.mode_;have r:=EZ Y C av (by decide);have a2:s.next+1<T.length:=r;have M:Av T (Ab s):=A4 q;have E:At (Ab s) ((s.next:Int)+1):=fun _=>by show _=((s.next+1:Nat):Int);omega
 have Q:=D3 Y h.adv r M ((s.next:Int)+1) E Bl (X [40] (by decide));have S:=D3 Y h.adv r M ((s.next:Int)+1) E BL (X [91] (by decide));have R:=D3 Y h.adv r M ((s.next:Int)+1) E BK (X [58,61] (by decide));have ah:Aj T Bl (Ab s)=true->Aj T BL (Ab s)=false/\Aj T BK (Ab s)=false:=fun h=>⟨DU (b:=[91]) h (by decide),DU (b:=[58,61]) h (by decide)⟩;have ai:Aj T BL (Ab s)=true->Aj T BK (Ab s)=false:=fun h=>DU (b:=[58,61]) h (by decide);have z:=fun P(ar:P≠[]) az=>AD Y r (f:=bs P) az (I6 _ ar);have am:=z [40] (by simp);have an:=z [91] (by simp);have ao:=z [58,61] (by simp);obtain⟨v,B⟩: ∃v,DE T (Ax m) Z s=v:=⟨_,rfl⟩;rw[B];unfold DE at B;generalize Aj T Bl (Ab s)=aj at*;generalize Aj T BL (Ab s)=ak at*;generalize Aj T BK (Ab s)=al at*;have u:Hid (_=v):=B;clear B z;go_enter func173,ntmps173;go_upto_region 2 with(go_at_call 94;refine Aq R ?_);go_upto_region 3 with(go_at_call 94;refine Aq S ?_);go_upto_region 4 with(go_at_call 94;refine Aq Q ?_);clear Q S R;cases aj with
 |true=>
  obtain⟨rfl,rfl⟩:=ah rfl;have G:=fun O=>Vl Y hF D I (X [44] (by decide)) (X [41] (by decide)) h q (am rfl) 2 (.inl rfl) O;go_wp2_with(first|(go_at_call 176;refine(J1 h _).mono ?_;rintro a t⟨rfl,c⟩;cases c)|(go_at_call 197;refine(G _).mono ?_;rintro a y⟨rfl,b,f⟩));go_ret;unfold Du;rw[<-u.out];exact⟨_,rfl,FW _,b,f⟩
 |false=>
  clear ah;cases ak with
  |true=>
   obtain rfl:=ai rfl;have G:=Af3 Y hF D I X J K h q (an rfl) ae;go_wp2_with(go_at_call 196;refine G.mono ?_;rintro a y⟨N,rfl,k,b,f⟩);go_ret;unfold Du;rw[<-u.out];exact⟨_,rfl,k,b,f⟩
  |false=>
   clear ai;cases al with
   |false=>
    have x:=H8 h.adv r 4 ((s.next:Int)+1) E;have o:Hid (v.2=AI T 4 (Ab s)):=by show _=_;rw[<-u.out];exact(I _ (EL 4 (Ab s))).2 (by rw[show(AI T 4 (Ab s)).code=4 by simp[AI,Ab,q]];decide)
    go_wp2_with(go_at_call 98;refine x.mono ?_;rintro a y⟨rfl,b,f⟩);go_ret;unfold Du;rw[o.out];exact⟨_,rfl,FW _,b,f⟩
   |true=>
    have au:=ao rfl;have ay:Av T (Ab (Ab s)):=fun h=>absurd q h;have aa:=(XT Y (Ax m) s au).1;have ad:=T6 (Ax m) s ay;have ab:At (FK T (Ax m) s (Ab (Ab s))) ((s.next:Int)+2):=Abe (fun _=>by show _=((s.next+1+1:Nat):Int);omega);have o:Hid (v.2=(Z (FK T (Ax m) s (Ab (Ab s)))).2):=by show _=_;rw[<-u.out];rfl
    clear u;have A: ∀n,m=some n-> ∀e,FK T (Ax m) s e=if n.E.isRes (Ad T s).text then e else Cs T (some n.E) s 0 e:=fun n ax e=>by subst ax;rfl
    obtain⟨l,g⟩: ∃l,FK T (Ax m) s (Ab (Ab s))=l:=⟨_,rfl⟩;rw[g] at aa ad ab o;have H:=fun e O(ap:RW U V cap T m e l)=>hF e l _ O ap aa ad ab;cases m with
    |none=>
     simp only[CU] at ac;have j:RW U V cap T none w l:=by rw[<-g];exact h.at (s.next+2)
     have p:=AgR h s.next;clear g A;go_wp2_with(first|(go_at_call 193;refine Aq p ?_)|(go_at_call 176;refine(J1 j _).mono ?_;rintro a t⟨rfl,c⟩;cases c)|(go_at_call 177;refine(H _ _ j).mono ?_;rintro a y⟨af,N,rfl,k,b,f⟩)|(go_at_call 178;refine(Ht b _).mono ?_;rintro a t⟨rfl,c⟩;cases c));go_ret;unfold Du;rw[o.out];exact⟨_,rfl,k.1,b,f⟩
    |some n=>
     simp only[CU] at ac;have p:=AgP h C;rw[A n rfl] at g;cases F:n.E.isRes (Ad T s).text with
     |true=>
      rw[F] at p g;have j: ∀i,RW U V cap T (some n) (w.drewN i) l:=fun i=>by rw[<-g];exact(h.at (s.next+2)).drew i
      clear g A F;go_wp2_with(first|(go_at_call 193;refine p.mono ?_;rintro a ag⟨rfl,i,L⟩;obtain rfl:=L)|(go_at_call 176;refine(J1 (j _) _).mono ?_;rintro a t⟨rfl,c⟩;cases c)|(go_at_call 177;refine(H _ _ (j _)).mono ?_;rintro a y⟨af,N,rfl,k,b,f⟩)|(go_at_call 178;refine(Ht b _).mono ?_;rintro a t⟨rfl,c⟩;cases c));go_ret;unfold Du;rw[o.out];exact⟨_,rfl,k.1,b,((As.refl _ _).drewN i).trans f⟩
     |false=>
      rw[F] at p g;have x:=fun i=>ND (h.drew i) C q 0;have aq: ∀e,(∀a0,RW U V cap T (some n) e (Cs T (Ax (some n)) s 0 {s with next:=a0}))->RW U V cap T (some n) e l:=fun e x=>by rw[<-g];exact x (s.next+2)
      clear g A F;go_wp2_with(first|(go_at_call 193;refine p.mono ?_;rintro a ag⟨rfl,i,L⟩;obtain rfl:=L)|(go_at_call 194;refine(x _).mono ?_;rintro a ag⟨a4,rfl,W,aw,_⟩;have j:=aq _ W;clear W)|(go_at_call 176;refine(J1 j _).mono ?_;rintro a t⟨rfl,c⟩;cases c)|(go_at_call 177;refine(H _ _ j).mono ?_;rintro a y⟨af,N,rfl,k,b,f⟩)|(go_at_call 178;refine(Ht b _).mono ?_;rintro a t⟨rfl,c⟩;cases c));go_ret;unfold Du;rw[o.out];exact⟨_,rfl,k.1,b,(((As.refl _ _).drewN i).trans aw).trans f⟩
end
theorem Agj(Y:AR T)(h:RW U V cap T m w s)(k:s.code=0)(o:An T (Ab s))(C:Bool):
 Ah 180 #[Al U,Aa s.next,.bool C] w (Du U V cap T m (Ea T (Ax m) (Ab s)) w):=by
 have H:=h.size;have G:s.next+1<T.length:=o;have B:Av T (Ab s):=A4 k;have z:At (Ab s) ((s.next:Int)+1):=fun _=>by show _=((s.next+1:Nat):Int);omega
 have a:=LY Y h.adv o B ((s.next:Int)+1) z .name 1 rfl (.inl (by decide));cases c:AN T .name (Ab s) with
 |false=>
  have l:Hid (Ea T (Ax m) (Ab s)=AI T 4 (Ab s)):=by show _=_;unfold Ea;rw[Ae (by rw[c];simp)]
  have e:Hd T .name (Ab s)=AI T 4 (Ab s):=by unfold Hd;rw[Ae (by rw[c];simp)]
  have f:=a;clear a;have a:Ah 124 #[Al U,Aa ((s.next:Int)+1),Aa 1] w fun b i=>b=.returned (Aa ((AI T 4 (Ab s)).next:Int))/\RW U V cap T m i (AI T 4 (Ab s))/\As U w i:=by have:=f;rw[e] at this;exact this
  clear f;have y:(AI T 4 (Ab s)).code=4:=by simp[AI,Ab,k]
  clear c e;generalize AI T 4 (Ab s)=E at*;go_enter func180,ntmps180;go_wp2_with(go_at_call 124;refine a.mono ?_;rintro b F⟨rfl,g,p⟩;have n:=g.fault;rw[y] at n);go_ret;unfold Du;rw[l.out];exact⟨_,rfl,FW _,g,p⟩
 |true=>
  have l:Hid (Ea T (Ax m) (Ab s)=Cs T (Ax m) (Ab s) 0 (Ab (Ab s))):=by show _=_;unfold Ea;rw[Ag c]
  have e:Hd T .name (Ab s)=Ab (Ab s):=by unfold Hd;rw[Ag c]
  have f:=a;clear a;have a:Ah 124 #[Al U,Aa ((s.next:Int)+1),Aa 1] w fun b i=>b=.returned (Aa ((s.next:Int)+2))/\RW U V cap T m i (Ab (Ab s))/\As U w i:=by have:=f;rw[e,show(((Ab (Ab s)).next:Nat):Int)=(s.next:Int)+2 from by show((s.next+1+1:Nat):Int)=_;omega] at this;exact this
  clear f;have j:=fun d(v:RW U V cap T m d (Ab s))=>ND v o (show(Ab s).code=0 from k) 0;rw[show(((Ab s).next:Nat):Int)=(s.next:Int)+1 from by show((s.next+1:Nat):Int)=_;omega] at j;have u:Hid (At (Cs T (Ax m) (Ab s) 0 (Ab (Ab s))) ((s.next:Int)+2)):=N2 (fun _=>by show _=((s.next+1+1:Nat):Int);omega);clear c e;have x: ∀d,(∀D,RW U V cap T m d (Cs T (Ax m) (Ab s) 0 {Ab s with next:=D}))->RW U V cap T m d (Cs T (Ax m) (Ab s) 0 (Ab (Ab s))):=fun d j=>j (s.next+2);generalize Cs T (Ax m) (Ab s) 0 (Ab (Ab s))=E at*;go_enter func180,ntmps180;go_wp2_with(first|(go_at_call 124;refine a.mono ?_;rintro b F⟨rfl,g,p⟩;have n:=g.fault;rw[show(Ab (Ab s)).code=0 from k] at n)|(go_at_call 194;refine(j _ (g.at (s.next+1))).mono ?_;rintro b J⟨I,rfl,q,A,_⟩;have r:=x _ q;clear q)|(go_at_call 176;refine(J1 r _).mono ?_;rintro b K⟨rfl,t⟩;obtain rfl:=t.symm;clear t));go_ret;unfold Du;rw[l.out];exact⟨_,rfl,u.out,r,p.trans A⟩
variable{O:PS->St×PS}
section
variable(Y:AR T)(hF:E8 U V cap T m 177 (d+1) Z)(D:AM T Z)(I:SM T Z)(N:Ls U V cap T m 151 (d+1) (fun s=>(O s).2))
include Y hF D I N
theorem Adc(aa:AM T O)(ac:SM T O)(X:Cj T)
 (J:0<=d)(K:d<=14)(h:RW U V cap T m w s)(ae:s.code=0)(v:An T (Ab s))(ak:Bool):
 Ah 174 #[Al U,Aa s.next,Aa d,.bool ak] w (Du U V cap T m (Dk T Z O (Ab s)).2 w):=by
 have av:=h.size;have au:s.next+1<T.length:=v;have Q:Av T (Ab s):=A4 ae;have ag:At (Ab s) ((s.next:Int)+1):=fun _=>by show _=((s.next+1:Nat):Int);omega
 have F:=fun n=>hF w (Ab s) _ n (h.at (s.next+1)) v Q ag;have L:=D _ v;have R:=I _ Q;have f:Hid ((Dk T Z O (Ab s)).2=if Aj T E3 (O (Am T Bu (Z (Ab s)).2)).2 then(O (Ab (O (Am T Bu (Z (Ab s)).2)).2)).2 else(O (Am T Bu (Z (Ab s)).2)).2):=by show _=_;unfold Dk;split<;>rfl
 generalize(Dk T Z O (Ab s)).2=S at*;have H:=(Ch Y (f:=Bu) Ai L.1).1;have M:=(Dq Y (f:=Bu) Ai R.1).1;have E:=fun c l(x:At (Z (Ab s)).2 l)(e:RW U V cap T m c (Z (Ab s)).2)=>FD Y e L.1 R.1 l x Bu (X _ (by decide));generalize Am T Bu (Z (Ab s)).2=a at*;have B:=aa _ H;have P:=ac _ M;have C:=fun c n(e:RW U V cap T m c a)=>N c a a.next n e H M (FW _);have o:=fun c l(x:At (O a).2 l)(e:RW U V cap T m c (O a).2)=>D3 Y e B.1 P.1 l x E3 (X _ (by decide));cases g:Aj T E3 (O a).2 with
 |false=>
  rw[g] at o f;have q:Hid (S=(O a).2):=f.out;clear f g;go_enter func174,ntmps174;go_wp2_with(first|(go_at_call 176;refine(J1 h _).mono ?_;rintro b aq⟨rfl,k⟩;obtain rfl:=k.symm;clear k)|(go_at_call 177;refine(F _).mono ?_;rintro b am⟨al,ai,rfl,u,r,y⟩)|(go_at_call 123;refine(E _ _ u.1 r).mono ?_;rintro b an⟨rfl,t,z⟩)|(go_at_call 151;refine(C _ _ t).mono ?_;rintro b ao⟨aj,rfl,p,j,A⟩)|(go_at_call 94;refine(o _ _ p j).mono ?_;rintro b ap⟨rfl,i⟩;obtain rfl:=i.symm;clear i));go_ret;unfold Du;rw[q.out];exact⟨_,rfl,p,j,(y.trans z).trans A⟩
 |true=>
  rw[g] at o f;have af:=AD Y B.1 g Ai;have G:=Cp Y P.1 Ai g;have ar:(O a).2.next<T.length:=B.1
  have q:Hid (S=(O (Ab (O a).2)).2):=f.out;have W:=fun c n(e:RW U V cap T m c (O a).2)=>N c (Ab (O a).2) (((O a).2.next:Int)+1) n (e.at _) af (A4 G) (fun _=>by show _=(((O a).2.next+1:Nat):Int);omega);clear f g;go_enter func174,ntmps174;go_wp2_with(first|(go_at_call 176;refine(J1 h _).mono ?_;rintro b aq⟨rfl,k⟩;obtain rfl:=k.symm;clear k)|(go_at_call 177;refine(F _).mono ?_;rintro b am⟨al,ai,rfl,u,r,y⟩)|(go_at_call 123;refine(E _ _ u.1 r).mono ?_;rintro b an⟨rfl,t,z⟩)|(go_at_call 151;refine(W _ _ j).mono ?_;rintro b ax⟨aw,rfl,ad,ab,ah⟩)|(go_at_call 151;refine(C _ _ t).mono ?_;rintro b ao⟨aj,rfl,p,j,A⟩;obtain rfl:=p G)|(go_at_call 94;refine(o _ _ (FW _) j).mono ?_;rintro b ap⟨rfl,i⟩;obtain rfl:=i.symm;clear i));go_ret;unfold Du;rw[q.out];exact⟨_,rfl,ad,ab,((y.trans z).trans A).trans ah⟩
theorem Ajp(X:Cj T)
 (J:0<=d)(K:d<=14)(h:RW U V cap T m w s)(A:s.code=0)(e:An T (Ab s))(M:Bool):
 Ah 175 #[Al U,Aa s.next,Aa d,.bool M] w (Du U V cap T m (F6 T Z O (Ab s)).2 w):=by
 have Q:=h.size;have P:s.next+1<T.length:=e;have l:Av T (Ab s):=A4 A;have C:At (Ab s) ((s.next:Int)+1):=fun _=>by show _=((s.next+1:Nat):Int);omega
 have x:=fun f=>hF w (Ab s) _ f (h.at (s.next+1)) e l C;have k:=D _ e;have n:=I _ l;have q:Hid ((F6 T Z O (Ab s)).2=(O (Am T Eh (Z (Ab s)).2)).2):=rfl;generalize(F6 T Z O (Ab s)).2=W at*;have B:=(Ch Y (f:=Eh) Ai k.1).1;have L:=(Dq Y (f:=Eh) Ai n.1).1;have t:=fun a p(E:At (Z (Ab s)).2 p)(c:RW U V cap T m a (Z (Ab s)).2)=>FD Y c k.1 n.1 p E Eh (X _ (by decide));generalize Am T Eh (Z (Ab s)).2=g at*;have r:=fun a f(c:RW U V cap T m a g)=>N a g g.next f c B L (FW _);go_enter func175,ntmps175;go_wp2;go_loopw [9,10,11,12,13] (fun _ _ _ _ _ wr=>wr=w) (fun _ _ _ _ _ _=>0)
 case atStart=>rfl
 case round=>
  obtain rfl:=hrel;go_wp2_with(first|(go_at_call 176;refine(J1 h _).mono ?_;rintro b af⟨rfl,o⟩;obtain rfl:=o.symm;clear o)|(go_at_call 177;refine(x _).mono ?_;rintro b ab⟨aa,R,rfl,y,u,F⟩)|(go_at_call 123;refine(t _ _ y.1 u).mono ?_;rintro b ac⟨rfl,i,G⟩)|(go_at_call 178;refine(Ht i _).mono ?_;rintro b ae⟨rfl,j⟩;obtain rfl:=j.symm;clear j)|(go_at_call 151;refine(r _ _ i).mono ?_;rintro b ad⟨S,rfl,z,v,H⟩));go_ret;unfold Du;rw[q.out];exact⟨_,rfl,z,v,(F.trans G).trans H⟩
end
theorem YK{n:Nat}{a:List St}{s:PS}(h:Aj T AQ (A7 T O s).2=true):BQ T O (n+1) a s=BQ T O n (a++(A7 T O s).1) (Ab (A7 T O s).2):=by rw[BQ,Ag h]
theorem YL{n:Nat}{a:List St}{s:PS}(h:Aj T AQ (A7 T O s).2=false):BQ T O (n+1) a s=(a++(A7 T O s).1,(A7 T O s).2):=by rw[BQ,Ae (by rw[h];simp)]
theorem Aek(Y:AR T)(N:Ls U V cap T m 151 d (fun s=>(O s).2))(P:AM T O)(Q:SM T O)(X:Cj T)
 (h:RW U V cap T m w s)(W:An T s)(R:s.code=0)(L:Bool):
 Ah 122 #[Al U,Aa s.next,Aa d,.bool L] w (Du U V cap T m (AK T O s).2 w):=by
 have ah:=h.size;go_enter func122,ntmps122;go_wp2;go_loopw [1,9,10,11] (fun F _ _ _ wr=> ∃(a:PS)(u:List St)(t:Nat),F=Aa (a.next:Int)/\RW U V cap T m wr a/\As U w wr/\An T a/\a.code=0/\T.length<=a.next+t/\Hid ((BQ T O t u a).2=(AK T O s).2)) (fun F _ _ _ _=>T.length -(intOf F).toNat)
 case atStart=>exact⟨s,[],T.length,rfl,h,As.refl _ _,W,R,by omega,rfl⟩
 case round=>
  obtain⟨a,u,t,rfl,p,y,q,C,ag,e⟩:=hrel;have ad:a.next<T.length:=q;have A:Av T a:=fun h=>absurd C h;have S:=p.fault;rw[C] at S;have f:=D3 Y p q A a.next (FW _) AQ (X _ (by decide));have n:=D3 Y p q A a.next (FW _) By (X _ (by decide));obtain⟨i,rfl⟩: ∃i,t=i+1:=⟨t -1,by omega⟩;cases c:Aj T AQ a with
  |true=>
   rw[c] at f;rw[DU (b:=[101,110,100]) c (by decide)] at n;have b:A7 T O a=([],a):=by unfold A7;rw[c];rfl
   have j:Hid ((BQ T O i (u++[]) (Ab a)).2=(AK T O s).2):=by show _=_;rw[<-e.out,YK (by rw[b];exact c),b]
   have D:=AD Y q c Ai;clear e c b;go_wp2_with(first|(go_at_call 94;have _q:=G;refine Aq f ?_)|(go_at_call 94;have _q:=o;refine Aq n ?_;have G:Hid True:=trivial)|(go_at_call 94;refine Aq f ?_;have o:Hid True:=trivial))
   go_roundw
   case rel=>exact⟨Ab a,_,i,by show _=Value.int .i64 ((a.next+1:Nat):Int);go_num,p.at _,y,D,C,by show T.length<=a.next+1+i;omega,j⟩
   case measure=>simp[intOf];omega
  |false=>
   rw[c] at f;cases l:Aj T By a with
   |true=>
    rw[l] at n;have b:A7 T O a=([],a):=by unfold A7;rw[c,l];rfl
    have j:Hid ((AK T O s).2=a):=by show _=_;rw[<-e.out,YL (by rw[b];exact c),b]
    clear e c l b;go_wp2_with(first|(go_at_call 94;have _q:=G;refine Aq f ?_)|(go_at_call 94;have _q:=o;refine Aq n ?_;have G:Hid True:=trivial)|(go_at_call 94;refine Aq f ?_;have o:Hid True:=trivial));go_ret;unfold Du;rw[j.out];exact⟨_,rfl,FW _,p,y⟩
   |false=>
    rw[l] at n;have b:A7 T O a=([(O a).1],(O a).2):=by unfold A7;rw[c,l];rfl
    have z:=P _ q;have J:=Q _ A;have af:=z.2;have ae:(O a).2.next<T.length:=z.1
    have H:=N wr a a.next L p q A (FW _);have v:=fun M K(Z:At (O a).2 K)(k:RW U V cap T m M (O a).2)=>D3 Y k z.1 J.1 K Z AQ (X _ (by decide));cases g:Aj T AQ (O a).2 with
    |true=>
     rw[g] at v;have I:=Cp Y J.1 Ai g;have D:=AD Y z.1 g Ai;have j:Hid ((BQ T O i (u++[(O a).1]) (Ab (O a).2)).2=(AK T O s).2):=by show _=_;rw[<-e.out,YK (by rw[b];exact g),b]
     clear e c l g b;go_wp2_with(first|(go_at_call 94;refine(v _ _ (FW _) k).mono ?_;rintro B ac⟨rfl,r⟩;obtain rfl:=r.symm;clear r)|(go_at_call 94;have _q:=o;refine Aq n ?_)|(go_at_call 94;refine Aq f ?_;have o:Hid True:=trivial)|(go_at_call 151;refine H.mono ?_;rintro B ab⟨aa,rfl,x,k,E⟩;obtain rfl:=x I))
     go_roundw
     case rel=>exact⟨Ab (O a).2,_,i,by show _=Value.int .i64 (((O a).2.next+1:Nat):Int);go_num,k.at _,y.trans E,D,I,by show T.length<=(O a).2.next+1+i;omega,j⟩
     case measure=>simp[intOf];omega
    |false=>
     rw[g] at v;have j:Hid ((AK T O s).2=(O a).2):=by show _=_;rw[<-e.out,YL (by rw[b];exact g),b]
     clear e c l g b;go_wp2_with(first|(go_at_call 94;refine(v _ _ x k).mono ?_;rintro B ac⟨rfl,r⟩;obtain rfl:=r.symm;clear r)|(go_at_call 94;have _q:=o;refine Aq n ?_)|(go_at_call 94;refine Aq f ?_;have o:Hid True:=trivial)|(go_at_call 151;refine H.mono ?_;rintro B ab⟨aa,rfl,x,k,E⟩));go_ret;unfold Du;rw[j.out];exact⟨_,rfl,x,k,y.trans E⟩
theorem Aej(h:RW U V cap T m w s)(f:An T s)(a:s.code≠0)(g:Int)(i:Bool):
 Ah 122 #[Al U,Aa g,Aa d,.bool i] w (Du U V cap T m s w):=by
 have j:=h.fault;have k:((s.code:Int)==0)=false:=by simp;omega
 have e:=Lc h f;have c:Hid (∀b,At s b):=fun b h=>absurd h a;clear a;go_enter func122,ntmps122;go_wp2;go_loopw [1,9,10,11] (fun _ _ _ _ wr=>wr=w) (fun _ _ _ _ _=>0)
 case atStart=>rfl
 case round=>
  obtain rfl:=hrel;go_wp2_with(go_at_call 126;refine Aq e ?_);go_ret;exact⟨_,rfl,c.out _,h,As.refl _ _⟩
theorem Xu(Y:AR T)(N:Ls U V cap T m 151 d (fun s=>(O s).2))(f:AM T O)(b:SM T O)(X:Cj T):Ls U V cap T m 122 d (fun s=>(AK T O s).2):=by
 intro w s j e h c i g;by_cases a:s.code=0
 ·obtain rfl:=g a;exact Aek Y N f b X h c a e
 ·rw[show(fun s=>(AK T O s).2) s=s from(JZ Y b s i).2 a];exact Aej h c a j e
end
