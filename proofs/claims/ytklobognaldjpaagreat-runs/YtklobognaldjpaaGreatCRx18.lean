/- The reference's walk as it runs: factors. The reference's wa -/
import Derived.Test.YtklobognaldjpaaGreatCWk9
set_option maxRecDepth 1000000
set_option maxHeartbeats 2000000
namespace Go.Proofs.YtklobognaldjpaaGreat
open Go.Proofs.Tryz
open Go.RowKit
section
variable{E:Ao}{L:Prop}{U V cap B:Nat}{T:List Az}{c:Nat}{O:Int}{X:Value}{G:List GC}{Y:Value}{H:List GC}{call:Dr}{d:Int}
theorem VM{op:Af}{e:Ex}{S:RS}{live:Bool}:(AC call live (.un op e) S).2=(AC call live e S).2/\((live&& !S.stop.isSome)=true->(AC call live (.un op e) S).1=if BE op [45] then BW (-(AC call live e S).1) else Cv ((AC call live e S).1==0)):=by
 unfold AC;cases h:(live&& !S.stop.isSome) with
 |false=>exact⟨rfl,fun e=>by cases e⟩
 |true=>exact⟨by rw[Ag rfl,Ag rfl,AB],fun _=>by rw[Ag rfl,Ag rfl,AB]⟩
theorem Sg{c:Ex}{S:RS}{a:Bool}(d:a=true)(h:(AC call a c S).2.stop=none):(a&& !S.stop.isSome)=true:=by
 cases b:(a&& !S.stop.isSome) with
 |true=>rfl
 |false=>
  rw[Ez b] at h;rw[d,show S.stop=none from h] at b;cases b
def NK(E:Ao)(L:Prop)(U V cap B:Nat)(T:List Az)(c:Nat)(O:Int)(X:Value)(G:List GC)(Y:Value)(H:List GC)(call:Dr)(d:Int)(a:AU):Prop:=
 ∀(w:World)(J Z:Value)(S:RS)(s:PS)(e:Int)(b:Bool),RA U V cap B T c O X G Y H w J Z S->An T s->e=s.next->AN T .name s=true->(Do T none a s).2.code=0->s.code=0->AV E (Do T none a s).1=none->(b=true->L)->Ah 228 #[Al U,Aa e,Aa d,.bool b] w (XP U V cap B T c O X G Y H call b (Do T none a s).1 (Do T none a s).2.next S w Z)
theorem Acw(z:AR T)(a9: ∀bh∈T,bh.val<=2147483647)(an:Cj T)(k:Nat)(bk:0<=d/\d<=14)(hF:XK E L U V cap B T c O X G Y H call 225 (d+1) (Bk T none k))(ba:XK E L U V cap B T c O X G Y H call 177 (d+1) (BA T none k))(a8:NK E L U V cap B T c O X G Y H call d (BA T none k)):XK E L U V cap B T c O X G Y H call 225 d (Bk T none (k+1)):=by
 intro w J Z S s br j h I bc a bf b ac;subst bc;have bp:=h.siz;have bm:(s.next:Int)<T.length:=by unfold An at I;omega
 obtain⟨aa,bi,bj⟩:=h.curCells I;have bt:w.cell? (Ac U 0)=some (Ar V T.length cap):=h.cel 0 _ rfl;have bu:w.cell? (Ac U 2)=some (Aa 0):=h.cel 2 _ rfl;have bl: ¬d>14:=by omega
 have r:=fun x am=>Dw h I rfl (bs x) (an x am);by_cases e:AN T .number s=true
 ·have f:Bk T none (k+1) s=(.num (Ad T s).val,Ab s):=by rw[Bk,Ag e];unfold BV;rw[Ag e]
  rw[f];have ao:(Ad T s).kind=.number:=by simpa[AN] using e
  rw[ao] at aa;simp only[TK.r] at aa;have bq:=a9 _ (PD I);have a4:Hid (RA U V cap B T c O X G Y H w J Z S):=h;have ab:(((Ab s).next:Nat):Int)=(s.next:Int)+1:=by show((s.next+1:Nat):Int)=_;omega
  have ah:(AC call j (.num (Ad T s).val) S).2=S:=by unfold AC;split<;>simp[AB]
  have ai:j=true->(AC call j (.num (Ad T s).val) S).2.stop=none->((Ad T s).val:Int)=(AC call j (.num (Ad T s).val) S).1:=fun C m=>by have:=Sg C m;unfold AC;rw[Ag this,AB]
  unfold XP;rw[ah,ab];rw[ah] at ai;have a6:Hid _:=ai;clear h a b f e r ah ai;generalize(Ad T s).val=bg at*;go_enter func225,ntmps225;go_wp2;go_ret2;exact⟨(bg:Int),rfl,⟨by omega,by omega⟩,a6.out,J,Z,a4.out,Kf.refl _ _ _ _ _⟩
 have R:s.code=0:=by
  by_cases ak:s.code=0
  ·exact ak
  ·exfalso;obtain⟨ae,af⟩:=MG z s (bf ak)
   have ar: ∀x∈JG,Aj T (bs x) s=false:=fun x am=>by
    unfold Aj;rw[af];cases v:(([]:List UInt8)==(bs x).toList) with
    |false=>rfl
    |true=>exact absurd (eq_of_beq v).symm (an x am).1
   have bd:AN T .name s=false:=by simp[AN,ae]
   have M:Bk T none (k+1) s=(.nil,AI T 4 s):=by rw[Bk,Ae e,Ae (by rw[bd];simp),Ae (by rw[ar [40] (by decide)];simp),Ae (by rw[ar [45] (by decide)];simp),Ae (by rw[ar [110,111,116] (by decide)];simp)]
   rw[M] at a;unfold AI at a;simp[ak] at a
 by_cases i:AN T .name s=true
 ·have f:Bk T none (k+1) s=Do T none (BA T none k) s:=by rw[Bk,Ae e,Ag i];rfl
  rw[f] at a b⊢;have ax:=a8 w J Z S s _ j h I rfl i a R b ac;have ao:(Ad T s).kind=.name:=by simpa[AN] using i
  rw[ao] at aa;simp only[TK.r] at aa;clear h a b f e r;unfold XP at ax⊢;go_enter func225,ntmps225;go_wp2_with(go_at_call 228;refine ax.mono ?_;rintro v ag⟨v1,rfl,A,F,q⟩);go_ret2;exact⟨v1,rfl,A,F,q.out⟩
 have af:=YH (Ad T s).kind;have ae:=Pc (Ad T s).kind;have bo:((Ad T s).kind.r==2)=false:=by rw[af];simpa[AN] using e
 have bn:((Ad T s).kind.r==1)=false:=by rw[ae];simpa[AN] using i
 clear ae af;have t:=r [40] (by decide);have n:=r [45] (by decide);have o:=r [110,111,116] (by decide);by_cases p:Aj T Bl s=true
 ·have f:Bk T none (k+1) s=((BA T none k (Ab s)).1,Am T AJ (BA T none k (Ab s)).2):=by rw[Bk,Ae e,Ae i,Ag p];rfl
  have g:=AD z I p Ai;have ap:=Hw z none k (Ab s) g;rw[f] at a b⊢
  have aq:Aj T AJ (BA T none k (Ab s)).2=true:=by
   cases bb:Aj T AJ (BA T none k (Ab s)).2 with
   |true=>rfl
   |false=>
    exfalso;unfold Am AI at a;rw[bb] at a;simp at a;split at a<;>simp_all
  have aj:Am T AJ (BA T none k (Ab s)).2=Ab (BA T none k (Ab s)).2:=by unfold Am;rw[Ag aq]
  have ay:(BA T none k (Ab s)).2.code=0:=by rw[aj] at a;exact a
  have l:=ba w J Z S (Ab s) ((s.next:Int)+1) j h g (by show _=((s.next+1:Nat):Int);omega) ay (A4 R) b ac;have au:Hid (∀(W:World)(a2 a3:Value)(av:RS),RA U V cap B T c O X G Y H W a2 a3 av->Ah 123 #[Al U,Aa ((BA T none k (Ab s)).2.next:Nat),.string AJ] W fun v K=>v=.returned (Aa (((BA T none k (Ab s)).2.next:Int)+1))/\K=W):=fun W a2 a3 av a7=>GQ a7 ap.1 rfl _ (an [41] (by decide)) aq;rw[p] at t;rw[DU p (by decide)] at n;rw[DU p (by decide)] at o;rw[aj];have ab:(((Ab (BA T none k (Ab s)).2).next:Nat):Int)=((BA T none k (Ab s)).2.next:Int)+1:=by show(((BA T none k (Ab s)).2.next+1:Nat):Int)=_;omega
  unfold XP at l⊢;rw[ab];have az:(BA T none k (Ab s)).2.next<T.length:=ap.1
  clear h a b f e i r aq aj ay ab g ap;generalize(BA T none k (Ab s)).2=a1 at*;generalize(BA T none k (Ab s)).1=M at*;generalize(Ad T s).kind.r=a0 at*;simp only[bs] at t n o;go_enter func225,ntmps225;go_upto_region 11 with(go_at_call 94;refine Aq t ?_);go_upto_region 12 with(go_at_call 94;refine Aq n ?_);go_upto_region 13 with(go_at_call 94;refine Aq o ?_);go_upto_region 15 with(go_at_call 177;refine l.mono ?_;rintro v ag⟨v1,rfl,A,F,q⟩);obtain⟨P,Q,y,N⟩:=q.out;have aw:=au.out ag P Q _ y;simp only[bs] at aw;have a5:Hid _:=And.intro y N;clear y N q l au;go_wp2_with(go_at_call 123;refine Aq aw ?_);go_ret2;exact⟨v1,rfl,A,F,P,Q,a5.out⟩
 ·have be:Aj T Bl s=false:=by simpa using p
  rw[be] at t;by_cases D:Aj T FA s=true
  ·have f:Bk T none (k+1) s=(.un FA (Bk T none k (Ab s)).1,(Bk T none k (Ab s)).2):=by rw[Bk,Ae e,Ae i,Ae p,Ag D]
   have g:=AD z I D Ai;rw[f] at a b⊢;rw[AV] at b;have l:=hF w J Z S (Ab s) ((s.next:Int)+1) j h g (by show _=((s.next+1:Nat):Int);omega) a (A4 R) b ac;rw[D] at n;rw[DU D (by decide)] at o;unfold XP at l⊢;have u:Hid _:=VM (call:=call) (op:=FA) (e:=(Bk T none k (Ab s)).1) (S:=S) (live:=j);have az:(Bk T none k (Ab s)).2.next<T.length:=(Gm z none k (Ab s) g).1
   clear h a b f e i r g;generalize(Bk T none k (Ab s)).2=a1 at*;generalize(Bk T none k (Ab s)).1=M at*;generalize(Ad T s).kind.r=a0 at*;simp only[bs] at t n o;go_enter func225,ntmps225;go_upto_region 11 with(go_at_call 94;refine Aq t ?_);go_upto_region 12 with(go_at_call 94;refine Aq n ?_);go_upto_region 13 with(go_at_call 94;refine Aq o ?_);go_wp2_with(first|(go_at_call 225;refine l.mono ?_;rintro v ag⟨v1,rfl,A,F,q⟩;have al:=A;unfold VB at al)|(go_at_call 222;refine Aq (QJ _ _) ?_));go_ret2;obtain⟨P,Q,y,N⟩:=q.out;refine⟨_,rfl,Rb _,fun C m=> ?_,P,Q,by rw[u.out.1];exact y,N⟩;rw[u.out.1] at m;rw[u.out.2 (Sg C m),<-F C m,Ag (by unfold BE;rw[Lz];rfl)]
  ·by_cases ad:Aj T GP s=true
   ·have f:Bk T none (k+1) s=(.un GP (Bk T none k (Ab s)).1,(Bk T none k (Ab s)).2):=by rw[Bk,Ae e,Ae i,Ae p,Ae D,Ag ad]
    have g:=AD z I ad Ai;rw[f] at a b⊢;rw[AV] at b;have l:=hF w J Z S (Ab s) ((s.next:Int)+1) j h g (by show _=((s.next+1:Nat):Int);omega) a (A4 R) b ac;rw[show Aj T FA s=false by simpa using D] at n;rw[ad] at o;unfold XP at l⊢;have u:Hid _:=VM (call:=call) (op:=GP) (e:=(Bk T none k (Ab s)).1) (S:=S) (live:=j);have az:(Bk T none k (Ab s)).2.next<T.length:=(Gm z none k (Ab s) g).1
    clear h a b f e i r g;generalize(Bk T none k (Ab s)).2=a1 at*;generalize(Bk T none k (Ab s)).1=M at*;generalize(Ad T s).kind.r=a0 at*;simp only[bs] at t n o;go_enter func225,ntmps225;go_upto_region 11 with(go_at_call 94;refine Aq t ?_);go_upto_region 12 with(go_at_call 94;refine Aq n ?_);go_upto_region 13 with(go_at_call 94;refine Aq o ?_);go_wp2_with(first|(go_at_call 225;refine l.mono ?_;rintro v ag⟨v1,rfl,A,F,q⟩;have al:=A;unfold VB at al)|(go_at_call 76;refine Aq (Q4 _ _) ?_));go_ret2;obtain⟨P,Q,y,N⟩:=q.out;refine⟨_,rfl,Aab _,fun C m=> ?_,P,Q,by rw[u.out.1];exact y,N⟩;rw[u.out.1] at m;rw[u.out.2 (Sg C m),<-F C m,Ae (by unfold BE;rw[Lz];decide)]
   ·exfalso;have M:Bk T none (k+1) s=(.nil,AI T 4 s):=by rw[Bk,Ae e,Ae i,Ae p,Ae D,Ae ad]
    rw[M] at a;unfold AI at a;simp[R] at a
variable{w:World}{J Z:Value}{S:RS}
theorem JJ(a:AR T){s:PS}(I:An T s)(N:AN T .name s=true):An T (Ab s):=by
 have b:s.next<T.length:=I;show s.next+1<T.length;by_cases h:s.next=T.length -1
 ·have:=(MG a s h).1;simp[AN,this] at N
 ·omega
theorem Ae9(A:AR T)(u:Cj T)(h:RA U V cap B T c O X G Y H w J Z S){s:PS}(I:An T s)(a:Bool)(N:AN T .name s=true)(q:Aj T BL (Ab s)=false)(r:Aj T Bl (Ab s)=false)(v:Lv G H S (Ad T s).text)(p:Nat):
 Ah 228 #[Al U,Aa (s.next:Nat),Aa d,.bool a] w (XP U V cap B T c O X G Y H call a (.var (Ad T s).text p) (s.next+1) S w Z):=by
 have k:=JJ A I N;have K:=h.siz;have F:s.next<T.length:=I;have f:=Dw h k (i:=(s.next:Int)+1) (by show _=((s.next+1:Nat):Int);omega) BL (u [91] (by decide));have g:=Dw h k (i:=(s.next:Int)+1) (by show _=((s.next+1:Nat):Int);omega) Bl (u [40] (by decide));rw[q] at f;rw[r] at g;have L:w.cell? (Ac U 1)=some (Aa 2):=h.cel 1 _ rfl;have e:=Hu h a;have z:=AcR h I rfl v;have l:Hid (RA U V cap B T c O X G Y H w J Z S):=h;have m:(AC call a (.var (Ad T s).text p) S).2=S:=by unfold AC;split<;>simp[AB]
 have n:a=true->S.stop=none->(AC call a (.var (Ad T s).text p) S).1=S.get (Ad T s).text:=fun b C=>by unfold AC;rw[Ag (by rw[b,C];rfl),AB]
 unfold XP;rw[m];have o:((s.next+1:Nat):Int)=(s.next:Int)+1:=by omega
 rw[o];have x:Hid (a=true->S.stop=none->(AC call a (.var (Ad T s).text p) S).1=S.get (Ad T s).text):=n;simp only[bs] at f g;clear h q r v m n o k;generalize(AC call a (.var (Ad T s).text p) S).1=P at*;generalize S.get (Ad T s).text=y at*;cases b:(a&& !S.stop.isSome) with
 |true=>
  rw[b] at e;go_enter func228,ntmps228;go_upto_region 2 with(go_at_call 94;refine Aq f ?_);go_upto_region 3 with(go_at_call 94;refine Aq g ?_);go_wp2_with(first|(go_at_call 178;refine Aq e ?_)|(go_at_call 230;refine z.mono ?_;rintro E M⟨rfl,D,t⟩));go_ret2;exact⟨y,rfl,D,fun i j=>(x.out i j).symm,J,Z,l.out.below t,Kf.of_par (As.of_below t)⟩
 |false=>
  rw[b] at e;go_enter func228,ntmps228;go_upto_region 2 with(go_at_call 94;refine Aq f ?_);go_upto_region 3 with(go_at_call 94;refine Aq g ?_);go_wp2_with(go_at_call 178;refine Aq e ?_);go_ret2;exact⟨0,rfl,⟨by omega,by omega⟩,(fun i j=>by rw[i,j] at b;cases b),J,Z,l.out,Kf.refl _ _ _ _ _⟩
end
def J7(G H:List GC)(a:Af)(k:Nat)(g:GC):Prop:=G[k]? =some g/\g.name.toList=a.toList/\ ∀b∈H,b.name.toList=a.toList->b.kind≠0
section
variable{U V cap B:Nat}{T:List Az}{c:Nat}{O:Int}{X:Value}{G:List GC}{Y:Value}{H:List GC}{w K:World}{J Z:Value}{S:RS}
section
variable(h:RA U V cap B T c O X G Y H w J Z S){s:PS}(I:An T s){k:Nat}{g:GC}(N:J7 G H (Ad T s).text k g)
include h I N
theorem AdJ:
 Ah 208 #[Al U,Aa (s.next:Nat)] w fun j K=>j=.returned (.tuple #[Aa (g.kind:Nat),Aa (k:Nat)])/\ ∃e,K=w.drewN e:=by
 obtain⟨n,v,o⟩:=N;have R:=h.siz;have D:(s.next:Int)<T.length:=by unfold An at I;omega
 obtain⟨_,_,y⟩:=h.curCells I;have S:w.cell? (Ac U 0)=some (Ar V T.length cap):=h.cel 0 _ rfl;have W:w.cell? (Ac U 4)=some X:=h.cel 4 _ rfl;have Z:w.cell? (Ac U 5)=some Y:=h.cel 5 _ rfl;have c:=fun e=>GV ((Kt h.hro).drew (w:=w) e) (by rw[BF];exact h.nd.2.2) (Ad T s).text;have f:=fun e=>GV ((Kt h.gro).drew (w:=w) e) (by rw[BF];exact h.nd.1.2) (Ad T s).text;have P:=h.nd.2.2;have Q:=h.nd.1.2;have O:=(BH.1 n).1;have M:(k:Int)<(G.length:Int):=by omega
 rw[LD h.nd.1 n v] at f;obtain⟨t,A,rfl,_,l⟩:=Gt h.gro n;have z:w.cell? (Ac t (k*6+1))=some (Aa (g.kind:Nat)):=l 1 (by omega);simp only[Es] at f;generalize(Ad T s).text=x at*;by_cases m: ∃(b:Nat)(a:GC),H[b]? =some a/\a.name.toList=x.toList
 ·obtain⟨b,a,d,i⟩:=m;rw[LD h.nd.2 d i] at c;obtain⟨u,C,rfl,_,r⟩:=Gt h.hro d;have aa:w.cell? (Ac u (b*6+1))=some (Aa (a.kind:Nat)):=r 1 (by omega);have L: ¬(a.kind:Int)=0:=by have:=o a (Ct d) i;omega
  have J:=(BH.1 d).1;have F:(b:Int)<(H.length:Int):=by omega
  have E:(b:Int)>=0:=by omega
  simp only[Es] at c;clear h r l o;generalize g.kind=gk at*;generalize a.kind=ab at*;go_enter func208,ntmps208;go_wp2;go_quiet(first|(go_at_call 152;exact Calls.quiet_of_same (c _)));go_wp2;go_quiet(first|(go_at_call 152;exact QA (f _)));go_wp2;go_ret2;exact⟨rfl,_,rfl⟩
 ·rw[Sq fun a i j=>m (by obtain⟨b,d⟩:=Is i;exact⟨b,a,d,j⟩)] at c;obtain⟨p,B,rfl,_⟩: ∃p q,Y=.slice p H.length q/\H.length<=q:=D9 h.hro;simp only[Es] at c;clear h l o m;generalize g.kind=gk at*;go_enter func208,ntmps208;go_wp2;go_quiet(first|(go_at_call 152;exact Calls.quiet_of_same (c _)));go_wp2;go_quiet(first|(go_at_call 152;exact QA (f _)));go_wp2;go_ret2;exact⟨rfl,_,rfl⟩
theorem Q6:
 Ah 194 #[Al U,Aa (s.next:Nat),Aa (g.kind:Nat)] w fun a K=>a=.returned (Aa (k:Nat))/\ ∃b,K=w.drewN b:=by
 have c:=AdJ h I N;have d:w.cell? (Ac U 1)=some (Aa 2):=h.cel 1 _ rfl;have e:w.cell? (Ac U 2)=some (Aa 0):=h.cel 2 _ rfl;clear h N;generalize g.kind=gk at*;go_enter func194,ntmps194;go_wp2_with(go_at_call 208;refine c.mono ?_;rintro a f⟨rfl,b,rfl⟩);go_ret;exact⟨rfl,_,rfl⟩
end
variable{E:Ao}{L:Prop}{call:Dr}{d:Int}
theorem Ace{n:Af}{p:Nat}{e:Ex}{S:RS}{live:Bool}:
 ((live&& !(AC call live e S).2.stop.isSome)=false->(AC call live (.elem n p e) S).2=(AC call live e S).2)/\
 ((live&& !(AC call live e S).2.stop.isSome)=true->(AC call live (.elem n p e) S)=if G8 ((AC call live e S).2.row n) (AC call live e S).1 then(((AC call live e S).2.row n).getD (AC call live e S).1.toNat 0,(AC call live e S).2) else(0,(AC call live e S).2.fail 9)):=by
 cases h:(live&& !S.stop.isSome) with
 |false=>
  rw[Ez h,Ez h];exact⟨fun _=>rfl,fun e=>by rw[h] at e;cases e⟩
 |true=>
  have b: ∀a,AC call live a S=AB call a S:=fun a=>by unfold AC;rw[Ag h]
  rw[b,b,AB];have c:live=true:=by cases live<;>simp_all
  subst c;cases d:(AB call e S).2.stop with
  |some k=>simp
  |none=>simp
theorem Ae8(a4:AR T)(ak:Cj T)(a:AU)(bm:AM T a)(b1:0<=d/\d<=14)(a5:XK E L U V cap B T c O X G Y H call 177 (d+1) a)(h:RA U V cap B T c O X G Y H w J Z S){s:PS}(I:An T s)(e:Bool)(N:AN T .name s=true)(a7:s.code=0)(P:Aj T BL (Ab s)=true){k:Nat}{g:GC}(ap:J7 G H (Ad T s).text k g)(an:g.kind=1)(p:Nat)(a1:Aj T Cn (a (Ab (Ab s))).2=true)(a8:(a (Ab (Ab s))).2.code=0)(a9:AV E (a (Ab (Ab s))).1=none)(bl:e=true->L):
 Ah 228 #[Al U,Aa (s.next:Nat),Aa d,.bool e] w (XP U V cap B T c O X G Y H call e (.elem (Ad T s).text p (a (Ab (Ab s))).1) ((a (Ab (Ab s))).2.next+1) S w Z):=by
 have Q:=JJ a4 I N;have al:=AD a4 Q P Ai;have ao:=bm (Ab (Ab s)) al;have b9:=h.siz;have b2:s.next<T.length:=I;have R:=Dw h Q (i:=(s.next:Int)+1) (by show _=((s.next+1:Nat):Int);omega) BL (ak [91] (by decide));have W:=Dw h Q (i:=(s.next:Int)+1) (by show _=((s.next+1:Nat):Int);omega) Bl (ak [40] (by decide));rw[P] at R;rw[DU P (by decide)] at W;have ai:=Q6 h I ap;rw[an] at ai;have af:Hid (∀m,Ah 177 #[Al U,Aa ((s.next:Int)+2),Aa (d+1),.bool e] (w.drewN m) (XP U V cap B T c O X G Y H call e (a (Ab (Ab s))).1 (a (Ab (Ab s))).2.next S (w.drewN m) Z)):=fun m=>a5 (w.drewN m) J Z S (Ab (Ab s)) _ e (h.below (GG m (Below.refl w.heap.size w))) al (by show _=((s.next+1+1:Nat):Int);omega) a8 (A4 (s:=Ab s) a7) a9 bl;have ax:Hid (∀(D:World)(ba bb:Value)(ay:RS),RA U V cap B T c O X G Y H D ba bb ay->Ah 123 #[Al U,Aa ((a (Ab (Ab s))).2.next:Nat),.string Cn] D fun t K=>t=.returned (Aa (((a (Ab (Ab s))).2.next:Int)+1))/\K=D):=fun D ba bb ay bi=>GQ bi ao.1 rfl _ (ak [93] (by decide)) a1;have v:Hid _:=Ace (call:=call) (n:=(Ad T s).text) (p:=p) (e:=(a (Ab (Ab s))).1) (S:=S) (live:=e);have b8:(a (Ab (Ab s))).2.next<T.length:=ao.1
 have r:Hid (J7 G H (Ad T s).text k g):=ap;have bf:Hid (G1 G):=h.nd.1;have az:(((a (Ab (Ab s))).2.next+1:Nat):Int)=((a (Ab (Ab s))).2.next:Int)+1:=by omega
 unfold XP at af⊢;rw[az];clear h ap P N a7 a1 a8 a9 Q al ao az;generalize(a (Ab (Ab s))).2=ca at*;generalize(a (Ab (Ab s))).1=l at*;simp only[bs] at R W;go_enter func228,ntmps228;go_upto_region 2 with(go_at_call 94;refine Aq R ?_);go_upto_region 3 with(go_at_call 94;refine Aq W ?_);go_upto_region 5 with(go_at_call 194;refine ai.mono ?_;rintro t cd⟨rfl,m,rfl⟩);have a6:=af.out m;go_upto_region 6 with(go_at_call 177;refine a6.mono ?_;rintro t q⟨v1,rfl,b0,ar,A⟩);obtain⟨z,o,j,F⟩:=A.out;have M:=ax.out q z o _ j;simp only[bs] at M;have x:=Hu j e;have C:Hid (RA U V cap B T c O X G Y H q z o (AC call e l S).2/\Kf U G H Z o w q):=⟨j,(Kf.of_par (As.of_below (GG m (Below.refl w.heap.size w)))).trans F⟩;clear a6 af ai R W ax a5;cases f:(e&& !(AC call e l S).2.stop.isSome) with
 |false=>
  rw[f] at x;clear j F A;go_wp2_with(first|(go_at_call 123;refine Aq M ?_)|(go_at_call 178;refine Aq x ?_));go_ret2;refine⟨0,rfl,⟨by omega,by omega⟩,fun bn aj=> ?_,z,o,by rw[v.out.1 f];exact C.out⟩;rw[v.out.1 f] at aj;rw[bn] at f aj;rw[aj] at f;cases f
 |true=>
  rw[f] at x;have bo:e=true:=by cases e<;>simp_all
  subst bo
  have ab:(AC call true l S).2.stop=none:=by
   cases bk:(AC call true l S).2.stop with
   |none=>rfl
   |some b=>rw[bk] at f;simp at f
  have au:=ar rfl ab;obtain⟨b,ac,aw,u⟩:=MO j.gv bf.out r.out.1 r.out.2.1;have aq:(AC call true l S).2.row (Ad T s).text=b.vals:=by unfold RS.row;rw[aw];show((AC call true l S).2.glob.getD k default).vals=_;rw[Dg,ac];rfl
  have n:=v.out.2 f;rw[aq,<-au] at n;have cb:q.cell? (Ac U 4)=some X:=j.cel 4 _ rfl;obtain⟨bh,bx,rfl,_,ah⟩:=Gt j.gro r.out.1;have a0:q.cell? (Ac bh (k*6+2))=some g.vv:=ah 2 (by omega);have b7:=(BH.1 r.out.1).1;have b6:(k:Int)<(G.length:Int):=by omega
  have a3:=Mb j ab 9;have ad:Hid (∀av∈b.vals,VB av):=fun av bq=>j.bnd.1 (b.name,b.vals) (Iu _ (CD.2 ⟨b,Ct ac,rfl⟩)) av bq;by_cases am:0<=v1/\v1<(b.vals.length:Int)
  ·obtain⟨i,rfl⟩: ∃i:Nat,v1=(i:Int):=⟨v1.toNat,by omega⟩;have aa:i<b.vals.length:=by omega
   have b4:(i:Int)<(b.vals.length:Int):=by omega
   have b5: ¬(i:Int)<0:=by omega
   have b3: ¬(i:Int)>=(b.vals.length:Int):=by omega
   obtain⟨bt,bu,y,_,_⟩:=u.form (by omega);rw[y] at a0 u;have ag:=u.cellAt i (by omega);rw[CC,Bb aa] at ag;have bw:q.cell? (Ac bt i)=some (Aa b.vals[i]):=ag;rw[Ag (by unfold G8;simpa using aa),Lo,Dg,Bb aa] at n;have bg:Hid (VB b.vals[i]):=ad.out _ (D4 aa);have ae:Hid (AC call true (.elem (Ad T s).text p l) S=(b.vals[i],(AC call true l S).2)):=n;clear j F A u ag n ah a3 ar au v ac aw aq ad ab f am y an r;generalize b.vals[i]=bv at*;generalize b.vals.length=bc at*;go_wp2_with(first|(go_at_call 123;refine Aq M ?_)|(go_at_call 178;refine Aq x ?_));go_ret2;rw[ae.out];exact⟨bv,rfl,bg.out,(fun _=>rfl),z,o,C.out⟩
  ·obtain⟨cc,bu,y,_⟩:=D9 u;rw[y] at a0;rw[Ae (by unfold G8;simpa using am)] at n;have ae:Hid (AC call true (.elem (Ad T s).text p l) S=(0,(AC call true l S).2.fail 9)):=n;have a2:Kf U G H Z o w q:=C.out.2;have be:Hid _:=a2;clear j F A u n ah ar au v ac aw aq ad C a2 ab f y an r;generalize b.vals.length=bc at*;have bp:v1<0\/(¬v1<0/\v1>=(bc:Int)):=by omega
   clear am;rcases bp with bj|⟨bj,bz⟩
   all_goals(
    go_wp2_with(first|(go_at_call 123;refine Aq M ?_)|(go_at_call 178;refine Aq x ?_)|(go_at_call 179;refine a3.mono ?_;rintro t ce⟨rfl,bd,br⟩));go_ret2;rw[ae.out]
    exact⟨0,rfl,⟨by omega,by omega⟩,(fun t=>by cases t),z,o,bd.out,be.out.trans (Kf.of_par br)⟩)
end
def Co(B:Nat)(call:Dr)(a:Bool)(b:St)(S:RS):RS:=if a&& !S.stop.isSome then Cr B call b S else S
def Eb(B:Nat)(call:Dr)(a:Bool)(b:List St)(S:RS):RS:=if a&& !S.stop.isSome then Dp B call b S else S
def SP(U V cap B:Nat)(T:List Az)(c:Nat)(O:Int)(X:Value)(G:List GC)(Y:Value)(H:List GC)(e:Nat)(b:RS)(w:World)(Z:Value)(d:Ending)(K:World):Prop:=
 d=.returned (Aa (e:Nat))/\Hid (∃f a,RA U V cap B T c O X G Y H K f a b/\Kf U G H Z a w K)
def J9(E:Ao)(H:List GC):Prop:= ∀a,E.isRes a=true-> ∃(k:Nat)(g:GC),H[k]? =some g/\g.name.toList=a.toList
def SK(E:Ao)(L:Prop)(U V cap B:Nat)(T:List Az)(c:Nat)(O:Int)(X:Value)(G:List GC)(Y:Value)(H:List GC)(call:Dr)(f:Nat)(d:Int)(a:PS->St×PS):Prop:=
 ∀(w:World)(J Z:Value)(S:RS)(s:PS)(e:Int)(b:Bool),RA U V cap B T c O X G Y H w J Z S->An T s->e=s.next->(a s).2.code=0->Av T s->A5 E (a s).1=none->(b=true->L)->Ah f #[Al U,Aa e,Aa d,.bool b] w (SP U V cap B T c O X G Y H (a s).2.next (Co B call b (a s).1 S) w Z)
section
variable{B:Nat}{call:Dr}
theorem JU{a:Bool}{b:St}{S:RS}(h:(a&& !S.stop.isSome)=false):Co B call a b S=S:=by unfold Co;rw[Ae (by rw[h];simp)]
theorem TQ{a:St}{S:RS}(h:S.stop=none):Co B call true a S=Cr B call a S:=by unfold Co;rw[h];rfl
theorem AgW{a:Ex}{t f:St}{S:RS}{b:Bool}{h:Int}{d:Bool}(c:d=(b&& !S.stop.isSome&& !(S.unit B).stop.isSome))(g:d=true->(AC call d a (S.due B b)).2.stop=none->h=(AC call d a (S.due B b)).1):
 Co B call b (.ite a t f) S=Co B call (d&&(h==0)) f (Co B call (d&&(h !=0)) t (AC call d a (S.due B b)).2):=by
 cases e:(b&& !S.stop.isSome) with
 |false=>
  rw[e] at c;subst c;rw[JU e,JU rfl,JU rfl,Ez rfl];unfold RS.due;rw[e];rfl
 |true=>
  have m:S.due B b=S.unit B:=by unfold RS.due;rw[e];rfl
  have n:Co B call b (.ite a t f) S=Cr B call (.ite a t f) S:=by unfold Co;rw[Ag e]
  rw[e] at c;rw[m] at g⊢;rw[n,Cr];cases l:(S.unit B).stop with
  |some k=>
   rw[l] at c;subst c;rw[JU rfl,JU rfl,Ez rfl];simp
  |none=>
   rw[l] at c;subst c;change true=true->(AC call true a (S.unit B)).2.stop=none->h=(AC call true a (S.unit B)).1 at g;change _=Co B call (true&&(h==0)) f (Co B call (true&&(h !=0)) t (AC call true a (S.unit B)).2);rw[FM l] at g⊢;generalize AB call a (S.unit B)=p at*;cases i:p.2.stop with
   |some k=>
    rw[JU (S:=p.2) (by rw[i];simp),JU (by rw[i];simp)];simp
   |none=>
    have g:=g rfl i;subst g;by_cases j:p.1=0
    ·rw[j];rw[JU (S:=p.2) (by simp),show(true&&((0:Int)==0))=true from rfl,TQ i];simp
    ·rw[show(true&&(p.1 !=0))=true by simpa using j,TQ i,show(true&&(p.1==0))=false by simpa using j,JU rfl];simp[j]
variable{E:Ao}{L:Prop}{U V cap:Nat}{T:List Az}{c:Nat}{O:Int}{X:Value}{G:List GC}{Y:Value}{H:List GC}{d:Int}{w:World}{J Z:Value}{S:RS}
theorem F5{f:Af}{s:PS}(h:(Am T f s).code=0):Aj T f s=true/\s.code=0/\Am T f s=Ab s:=by
 unfold Am at h⊢;cases a:Aj T f s with
 |true=>rw[a] at h;exact⟨rfl,h,rfl⟩
 |false=>
  exfalso;rw[a] at h;unfold AI at h;simp at h;split at h<;>simp_all
theorem Lk{e:Type}{a:PS->e×PS}(c:SM T a){s:PS}(d:Av T s)(h:(a s).2.code=0):s.code=0:=by
 by_cases b:s.code=0
 ·exact b
 ·rw[(c s d).2 b] at h;exact h
theorem Ade(I:AR T)(bd:Cj T)(a:AU)(k:PS->St×PS)(b0:AM T a)(bz:AM T k)(b1:SM T a)(a7:SM T k)(cd:0<=d/\d<=14)(a8:XK E L U V cap B T c O X G Y H call 177 (d+1) a)(ah:SK E L U V cap B T c O X G Y H call 151 (d+1) k)(h:RA U V cap B T c O X G Y H w J Z S){s:PS}(N:An T (Ab s))(q:Bool)(ba:s.code=0)(u:(Dk T a k (Ab s)).2.code=0)(Q:A5 E (Dk T a k (Ab s)).1=none)(b4:q=true->L):
 Ah 174 #[Al U,Aa (s.next:Nat),Aa d,.bool q] w (SP U V cap B T c O X G Y H (Dk T a k (Ab s)).2.next (Co B call q (Dk T a k (Ab s)).1 S) w Z):=by
 have ch:=h.siz;have ce:s.next+1<T.length:=N;have ap:Av T (Ab s):=A4 ba;have an:=b0 (Ab s) N;have bj:=b1 (Ab s) ap;obtain⟨e,p⟩: ∃e,(k (Am T Bu (a (Ab s)).2)).2=e:=⟨_,rfl⟩
 have C:Av T (Am T Bu (a (Ab s)).2):=by
  unfold Am;split
  ·rename_i b2;exact A4 (Cp I bj.1 Ai b2)
  ·intro _;rfl
 have ao:=(a7 _ C).1;rw[p] at ao
 have M:e.code=0:=by
  unfold Dk at u;rw[p] at u;cases m:Aj T E3 e with
  |true=>exact Cp I ao Ai m
  |false=>rw[m] at u;exact u
 have bc:=Lk a7 C (by rw[p];exact M);obtain⟨af,bb,ae⟩:=F5 bc;have P:=AD I an.1 af Ai;rw[ae] at p C;have A:=bz _ P;rw[p] at A;have ak:=Lm h q;obtain⟨n,R⟩: ∃n,n=(q&& !S.stop.isSome&& !(S.unit B).stop.isSome):=⟨_,rfl⟩;rw[<-R] at ak;have aq:n=true->L:=fun i=>b4 (by rw[R] at i;simp at i;exact i.1.1)
 obtain⟨t,x,a4,al⟩: ∃(t:St)(x:PS),Dk T a k (Ab s)=(.ite (a (Ab s)).1 (k (Ab (a (Ab s)).2)).1 t,x)/\((Aj T E3 e=false/\t=.nil/\x=e)\/(Aj T E3 e=true/\t=(k (Ab e)).1/\x=(k (Ab e)).2)):=by
  unfold Dk;rw[ae,p];cases m:Aj T E3 e with
  |true=>exact⟨_,_,rfl,.inr ⟨rfl,rfl,rfl⟩⟩
  |false=>exact⟨_,_,rfl,.inl ⟨rfl,rfl,rfl⟩⟩
 rw[a4] at u Q⊢;rw[A5] at Q;obtain⟨be,bg⟩:=Bq Q;obtain⟨bf,bh⟩:=Bq be;have a3:Hid (∀(b:World)(j f:Value),RA U V cap B T c O X G Y H b j f (S.due B q)->Ah 177 #[Al U,Aa ((s.next:Int)+1),Aa (d+1),.bool n] b (XP U V cap B T c O X G Y H call n (a (Ab s)).1 (a (Ab s)).2.next (S.due B q) b f)):=fun b j f o=>a8 b j f _ (Ab s) _ n o N (by show _=((s.next+1:Nat):Int);omega) bb ap bf aq;have a2:Hid (∀(b:World)(j f:Value)(g:RS),RA U V cap B T c O X G Y H b j f g->Ah 123 #[Al U,Aa ((a (Ab s)).2.next:Nat),.string Bu] b fun i K=>i=.returned (Aa (((a (Ab s)).2.next:Int)+1))/\K=b):=fun b j f g o=>GQ o an.1 rfl _ (bd _ (by decide)) af;have az:Hid (∀(l:Bool)(b:World)(j f:Value)(g:RS),(l=true->L)->RA U V cap B T c O X G Y H b j f g->Ah 151 #[Al U,Aa (((a (Ab s)).2.next:Int)+1),Aa (d+1),.bool l] b (SP U V cap B T c O X G Y H e.next (Co B call l (k (Ab (a (Ab s)).2)).1 g) b f)):=fun l b j f g am o=>by have:=ah b j f g (Ab (a (Ab s)).2) _ l o P rfl (by rw[p];exact M) C bh am;rw[p] at this;rw[show(((a (Ab s)).2.next:Int)+1)=(((Ab (a (Ab s)).2).next:Nat):Int) by show _=(((a (Ab s)).2.next+1:Nat):Int);omega];exact this
 have ac:Hid (∀(b:World)(j f:Value)(g:RS),RA U V cap B T c O X G Y H b j f g->Ah 94 #[Al U,Aa (e.next:Nat),.string E3] b fun i K=>i=.returned (.bool (Aj T E3 e))/\K=b):=fun b j f g o=>Dw o A.1 rfl _ (bd _ (by decide))
 have ab:Hid (Aj T E3 e=true-> ∀(l:Bool)(b:World)(j f:Value)(g:RS),(l=true->L)->RA U V cap B T c O X G Y H b j f g->Ah 151 #[Al U,Aa ((e.next:Int)+1),Aa (d+1),.bool l] b (SP U V cap B T c O X G Y H x.next (Co B call l t g) b f)):=fun m l b j f g am o=>by
  rcases al with⟨y,_,_⟩|⟨_,rfl,rfl⟩
  ·rw[m] at y;cases y
  ·exact ah b j f g (Ab e) _ l o (AD I A.1 m Ai) (by show _=((e.next+1:Nat):Int);omega) u (A4 M) bg am
 have ad:Hid (Aj T E3 e=false->x=e/\ ∀l g,Co B call l t g=g):=fun m=>by
  rcases al with⟨_,rfl,rfl⟩|⟨y,_,_⟩
  ·exact⟨rfl,fun l g=>by unfold Co;split<;>simp[Cr]⟩
  ·rw[m] at y;cases y
 have a0:Hid (∀bo,(n=true->(AC call n (a (Ab s)).1 (S.due B q)).2.stop=none->bo=(AC call n (a (Ab s)).1 (S.due B q)).1)->_):=fun bo b5=>AgW (f:=t) (t:=(k (Ab (a (Ab s)).2)).1) R b5;have cf:(a (Ab s)).2.next+1<T.length:=P
 have cg:e.next<T.length:=A.1;clear h u Q a4 al be bg bf bh ba bb M bc ae C bj ao an A P af p R N ap a8 ah;generalize(a (Ab s)).2=b7 at*;generalize(a (Ab s)).1=cb at*;generalize(k (Ab b7)).1=ci at*;unfold SP XP at*;go_enter func174,ntmps174;go_upto_region 2 with(go_at_call 176;refine ak.mono ?_;rintro i ca⟨rfl,ax,bn⟩);have a9:=a3.out ca J Z ax.out;go_upto_region 3 with(go_at_call 177;refine a9.mono ?_;rintro i av⟨r,rfl,cc,bl,ay⟩);obtain⟨bp,au,ag,a5⟩:=ay.out;have aj:=a2.out av bp au _ ag;have a6:=a0.out r bl;have D:Hid _:=a6;have bt:Hid (Kf U G H Z au w av):=(Kf.of_par bn).trans a5;have F:=az.out (n&&(r !=0)) av bp au _ (fun i=>aq (by simp at i;exact i.1)) ag;simp only[bs] at aj;clear ag a5 ay ax bn a9 a3 ak bl a6 a0 a2 az;go_upto_region 4 with(go_at_call 123;refine Aq aj ?_);have b6:((r==0)=true/\(r !=0)=false)\/((r==0)=false/\(r !=0)=true):=by cases h:(r==0)<;>simp[bne,h]
 clear aj;have bi:(n&&(r==0))=true->L:=fun i=>aq (by simp at i;exact i.1);cases n<;>rcases b6 with⟨bk,bm⟩|⟨bk,bm⟩
 all_goals(
  rw[bm] at F D;rw[bk] at D bi;go_upto_region 5 with(go_at_call 151;refine F.mono ?_;rintro i aw⟨rfl,aa⟩);obtain⟨ar,W,z,ai⟩:=aa.out;have v:=ac.out aw ar W _ z;have a1:Hid (Kf U G H Z W w aw):=bt.out.trans ai;cases m:Aj T E3 e
  ·rw[m] at v;obtain⟨bu,b3⟩:=ad.out m;have br:Hid _:=z;simp only[bs] at v;clear z ai aa F ab ad ac;go_wp2_with(go_at_call 94;refine Aq v ?_);go_ret;rw[D.out,b3,bu];exact⟨rfl,ar,W,br.out,a1.out⟩
  ·rw[m] at v;have bw:=ab.out m _ aw ar W _ bi z;simp only[bs] at v;clear z ai aa F ab ad ac;go_upto_region 6 with(go_at_call 94;refine Aq v ?_);go_wp2_with(go_at_call 151;refine bw.mono ?_;rintro i cj⟨rfl,bq⟩);go_ret;obtain⟨b8,b9,bv,bx⟩:=bq.out;rw[D.out]
   exact⟨rfl,b8,b9,bv,a1.out.trans bx⟩)
theorem Zi(b:List St): ∀(a:List St)(S:RS),S.stop=none->Dp B call (a++b) S=if(Dp B call a S).stop.isSome then Dp B call a S else Dp B call b (Dp B call a S)
 |[],S,h=>by
  rw[Hl];have c:Dp B call [] S=S:=by rw[Dp]
  rw[c,h];simp
 |e::a,S,_=>by
  rw[IZ,Dp,Dp];split
  ·rfl
  ·rename_i h
   exact Zi b a _ (by
    cases d:(Cr B call e S).stop with
    |none=>rfl
    |some k=>rw[d] at h;simp at h)
theorem Ag1{a:Bool}(d f:List St)(S:RS):Eb B call a (d++f) S=Eb B call a f (Eb B call a d S):=by
 cases e:(a&& !S.stop.isSome) with
 |false=>
  have b: ∀c,Eb B call a c S=S:=fun c=>by unfold Eb;rw[Ae (by rw[e];simp)]
  rw[b,b,b]
 |true=>
  have i:S.stop=none:=by
   cases g:S.stop with
   |none=>rfl
   |some j=>rw[g] at e;simp at e
  have h:a=true:=by cases a<;>simp_all
  subst h;have b: ∀c,Eb B call true c S=Dp B call c S:=fun c=>by unfold Eb;rw[Ag e]
  rw[b,b,Zi f d S i];unfold Eb;cases k:(Dp B call d S).stop with
  |none=>simp
  |some j=>simp
theorem Ag3{a:Bool}(b:St)(S:RS):Eb B call a [b] S=Co B call a b S:=by
 unfold Eb Co;split
 ·rw[Dp];split
  ·rfl
  ·rw[Dp]
 ·rfl
theorem Ag2{a:Bool}(S:RS):Eb B call a [] S=S:=by
 unfold Eb;split
 ·rw[Dp]
 ·rfl
end
