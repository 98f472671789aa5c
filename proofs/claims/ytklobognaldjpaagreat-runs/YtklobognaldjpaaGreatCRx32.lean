/- The reference's walk as it runs: a place of an array has a v -/
import Derived.Test.YtklobognaldjpaaGreatCRx29
set_option maxRecDepth 1000000
set_option maxHeartbeats 8000000
namespace Go.Proofs.YtklobognaldjpaaGreat
open Go.Proofs.Tryz
open Go.RowKit
section
variable{E:Ao}{L:Prop}{U X cap B:Nat}{T:List Az}{c:Nat}{V:Int}{Y:Value}{G:List GC}{Z:Value}{H:List GC}{call:Dr}{d:Int}{w:World}{C J:Value}{S:RS}{O:AU}
section
variable(D:AR T)(I:Cj T)(K:AM T O)(N:SM T O)(M:0<=d/\d<=14)(A:Fj E G H)
include D I K N M A
theorem Af4(bn:XK E L U X cap B T c V Y G Z H call 177 (d+1) O)(h:RA U X cap B T c V Y G Z H w C J S){s:PS}(cp:An T s)(dj:AN T .name s=true)(dg:s.code=0)(F:Bool)(cj:Aj T BL (Ab s)=true)(aj:(O (Am T BK (Cg T O (Ab (Ab s))).2)).2.code=0)(al:A5 E (.put (Ad T s).text (Ad T s).pos (O (Ab (Ab s))).1 (O (Am T BK (Cg T O (Ab (Ab s))).2)).1)=none)(cg:F=true->L):
 Ah 196 #[Al U,Aa (s.next:Nat),Aa d,.bool F] w (SP U X cap B T c V Y G Z H (O (Am T BK (Cg T O (Ab (Ab s))).2)).2.next (Co B call F (.put (Ad T s).text (Ad T s).pos (O (Ab (Ab s))).1 (O (Am T BK (Cg T O (Ab (Ab s))).2)).1) S) w J):=by
 have cq:=JJ D cp dj;have a3:=AD D cq cj Ai;have d9:=h.siz;have d1:s.next+2<T.length:=a3;have bv:Av T (Ab (Ab s)):=A4 (s:=Ab s) dg;have bt:=K _ a3;have cx:=N _ bv
 have cr:Av T (Cg T O (Ab (Ab s))).2:=by
  show Av T (Am T Cn (O (Ab (Ab s))).2);unfold Am;split
  ·rename_i bq;exact A4 (Cp D cx.1 Ai bq)
  ·intro _;rfl
 have am:Av T (Am T BK (Cg T O (Ab (Ab s))).2):=by
  unfold Am;split
  ·rename_i bq;exact A4 (Cp D cr Ai bq)
  ·intro _;rfl
 have co:=Lk N am aj;obtain⟨a1,cm,cb⟩:=F5 co;rw[cb] at aj al am⊢;have cn:(Am T Cn (O (Ab (Ab s))).2).code=0:=cm;obtain⟨bk,cl,cc⟩:=F5 cn;have ca:(Cg T O (Ab (Ab s))).2=Ab (O (Ab (Ab s))).2:=cc;rw[ca] at aj al am a1⊢;have bo:=AD D bt.1 bk Ai;have a4:=AD D bo a1 Ai;have cv:=K _ a4;obtain⟨b,a7⟩: ∃b,b=(F&& !S.stop.isSome&& !(S.unit B).stop.isSome):=⟨_,rfl⟩;have bd:Hid (∀ao,_):=fun ao=>Lm (h.below (GG ao (Below.refl w.heap.size w))) F;rw[<-a7] at bd;have bw:b=true->L:=fun f=>cg (by rw[a7] at f;simp at f;exact f.1.1);rw[A5] at al;obtain⟨ag,cu⟩:=Bq al;obtain⟨ag,ct⟩:=Bq ag
 have cs:(E.kindIx (Ad T s).text).1=((1:Nat):Int):=by
  unfold Dz at ag;split at ag
  ·assumption
  ·cases ag
 obtain⟨z,cd,a5,bp,_⟩:=A.outAt (by omega) cs;have bm:=Q6 h cp a5;rw[bp] at bm;obtain⟨be,g⟩: ∃be,be=Co B call F (.put (Ad T s).text (Ad T s).pos (O (Ab (Ab s))).1 (O (Ab (Ab (O (Ab (Ab s))).2))).1) S:=⟨_,rfl⟩;rw[<-g];rw[AgY a7 rfl] at g;have az:Hid _:=g;have b9:Hid (∀(a:World)(i e:Value),RA U X cap B T c V Y G Z H a i e (S.due B F)->Ah 177 #[Al U,Aa ((s.next:Int)+2),Aa (d+1),.bool b] a (XP U X cap B T c V Y G Z H call b (O (Ab (Ab s))).1 (O (Ab (Ab s))).2.next (S.due B F) a e)):=fun a i e v=>bn a i e _ (Ab (Ab s)) _ b v a3 (by show _=((s.next+1+1:Nat):Int);omega) cl bv ct bw;have ae:Hid (∀(a:World)(i e:Value)(u:RS),RA U X cap B T c V Y G Z H a i e u->Ah 177 #[Al U,Aa ((O (Ab (Ab s))).2.next+1+1:Int),Aa (d+1),.bool b] a (XP U X cap B T c V Y G Z H call b (O (Ab (Ab (O (Ab (Ab s))).2))).1 (O (Ab (Ab (O (Ab (Ab s))).2))).2.next u a e)):=fun a i e u v=>bn a i e _ (Ab (Ab (O (Ab (Ab s))).2)) _ b v a4 (by show _=(((O (Ab (Ab s))).2.next+1+1:Nat):Int);omega) aj am cu bw;have bb:Hid (∀(a:World)(i e:Value)(u:RS),RA U X cap B T c V Y G Z H a i e u->Ah 123 #[Al U,Aa ((O (Ab (Ab s))).2.next:Nat),.string Cn] a fun f ar=>f=.returned (Aa (((O (Ab (Ab s))).2.next:Int)+1))/\ar=a):=fun a i e u v=>GQ v bt.1 rfl _ (I _ (by decide)) bk;have bc:Hid (∀(a:World)(i e:Value)(u:RS),RA U X cap B T c V Y G Z H a i e u->Ah 123 #[Al U,Aa (((O (Ab (Ab s))).2.next:Int)+1),.string BK] a fun f ar=>f=.returned (Aa (((O (Ab (Ab s))).2.next:Int)+1+1))/\ar=a):=fun a i e u v=>by have:=GQ v bo (i:=((O (Ab (Ab s))).2.next:Int)+1) (by show _=(((O (Ab (Ab s))).2.next+1:Nat):Int);omega) _ (I _ (by decide)) a1;rw[show((((Ab (O (Ab (Ab s))).2).next:Nat):Int)+1)=((O (Ab (Ab s))).2.next:Int)+1+1 by show(((O (Ab (Ab s))).2.next+1:Nat):Int)+1=_;omega] at this;exact this
 have W:Hid (J7 G H (Ad T s).text z cd):=a5;have b8:Hid (G1 G):=h.nd.1;have d7:(O (Ab (Ab s))).2.next+2<T.length:=a4
 have d8:(O (Ab (Ab (O (Ab (Ab s))).2))).2.next<T.length:=cv.1
 have d6:=(BH.1 a5.1).1;have d5:(z:Int)<(G.length:Int):=by omega
 clear h cj aj al ag ct cu a7 bw cg bn A a3 cq a5 g am cm cn cl bk a1 cb cc ca bo a4 bt cv cx cr bv cs co;unfold SP XP at*;generalize(O (Ab (Ab (O (Ab (Ab s))).2))).2=ec at*;generalize(O (Ab (Ab (O (Ab (Ab s))).2))).1=p at*;generalize(O (Ab (Ab s))).2=eb at*;generalize(O (Ab (Ab s))).1=o at*;generalize S.due B F=n at*;simp only[bs] at bb bc;go_enter func196,ntmps196;go_upto_region 2 with(go_at_call 194;refine bm.mono ?_;rintro f eg⟨rfl,ao,rfl⟩);have ch:=bd.out ao;go_upto_region 3 with(go_at_call 176;refine ch.mono ?_;rintro f dr⟨rfl,b6,c0⟩);have ci:=b9.out dr C J b6.out;go_upto_region 4 with(go_at_call 177;refine ci.mono ?_;rintro f R⟨ab,rfl,dz,a8,ax⟩);obtain⟨ah,ac,k,a2⟩:=ax.out;have dd:=bb.out R ah ac _ k;have de:=bc.out R ah ac _ k;have x:=Hu k b;have P:Hid (RA U X cap B T c V Y G Z H R ah ac (AC call b o n).2/\Kf U G H J ac w R):=⟨k,((Kf.of_par (As.of_below (GG ao (Below.refl w.heap.size w)))).trans (Kf.of_par c0)).trans a2⟩;clear ci b9 ch bd b6 c0 bm bb bc;go_upto_region 5 with(go_at_call 123;refine Aq dd ?_);go_upto_region 6 with(go_at_call 123;refine Aq de ?_);cases r:(b&& !(AC call b o n).2.stop.isSome) with
 |false=>
  rw[r] at x;have q:=ae.out R ah ac _ k;have ak:AC call b p (AC call b o n).2=(0,(AC call b o n).2):=Ez r;rw[ak] at q;have ay:Hid _:=r;clear k a2 ax a8 r ak ae;generalize(AC call b o n).2=j at*;have c7:Hid (∀(a:World)(i e:Value),RA U X cap B T c V Y G Z H a i e j->Ah 178 #[Al U,.bool b] a fun f ar=>f=.returned (.bool false)/\ar=a):=fun a i e v=>by have:=Hu v b;rw[ay.out] at this;exact this
  go_upto_region 10 with(first|(go_at_call 178;refine Aq x ?_)|(go_at_call 177;refine q.mono ?_;rintro f ad⟨a9,rfl,ck,an,M⟩));obtain⟨ap,aq,l,aa⟩:=M.out;have af:=c7.out ad ap aq l;have ba:Hid _:=And.intro l (P.out.2.trans aa);clear l aa M q x P an;go_wp2_with(go_at_call 178;refine Aq af ?_);go_ret;rw[az.out,Ae (by rw[ay.out];simp)];exact⟨rfl,ap,aq,ba.out⟩
 |true=>
  rw[r] at x;have dl:b=true:=by cases b<;>simp_all
  subst dl
  have a6:(AC call true o n).2.stop=none:=by
   cases bj:(AC call true o n).2.stop with
   |none=>rfl
   |some t=>rw[bj] at r;simp at r
  have bx:=a8 rfl a6;obtain⟨t,b2,b3,au⟩:=MO k.gv b8.out W.out.1 W.out.2.1;have bu:(AC call true o n).2.row (Ad T s).text=t.vals:=by unfold RS.row;rw[b3];show((AC call true o n).2.glob.getD z default).vals=_;rw[Dg,b2];rfl
  have g:=az.out;rw[Ag r,bu,<-bx] at g;have c1:R.cell? (Ac U 4)=some Y:=k.cel 4 _ rfl;obtain⟨bh,da,rfl,_,bi⟩:=Gt k.gro W.out.1;have a0:R.cell? (Ac bh (z*6+2))=some cd.vv:=bi 2 (by omega);by_cases br:0<=ab/\ab<(t.vals.length:Int)
  ·obtain⟨m,rfl⟩: ∃m:Nat,ab=(m:Int):=⟨ab.toNat,by omega⟩;have di:m<t.vals.length:=by omega
   have d3:(m:Int)<(t.vals.length:Int):=by omega
   have d4: ¬(m:Int)<0:=by omega
   have d2: ¬(m:Int)>=(t.vals.length:Int):=by omega
   obtain⟨b0,b1,y,_,_⟩:=au.form (by omega);rw[y] at a0;rw[Ag (by unfold G8;simpa using di)] at g;have q:=ae.out R ah ac _ k;have ai:Hid _:=g;clear k a2 ax a8 r ae a6 bx b2 b3 bu g bi az br bp;generalize(AC call true o n).2=j at*;generalize cz:t.vals.length=av at*;have c9:Hid (t.vals.length=av):=cz;clear cz;go_upto_region 10 with(first|(go_at_call 178;refine Aq x ?_)|(go_at_call 177;refine q.mono ?_;rintro f ad⟨a9,rfl,ck,an,M⟩));obtain⟨ap,aq,l,aa⟩:=M.out;have af:=Hu l true;cases Q:(true&& !(AC call true p j).2.stop.isSome) with
   |false=>
    rw[Q] at af;have ba:Hid _:=And.intro l (P.out.2.trans aa);have ay:Hid _:=Q;clear l aa M q x P an Q c1 a0 au;go_wp2_with(go_at_call 178;refine Aq af ?_);go_ret;rw[ai.out,Ae (by rw[ay.out];simp)];exact⟨rfl,ap,aq,ba.out⟩
   |true=>
    rw[Q] at af
    have cy:(AC call true p j).2.stop=none:=by
     cases bj:(AC call true p j).2.stop with
     |none=>rfl
     |some t=>rw[bj] at Q;simp at Q
    have g:=ai.out;rw[Ag Q,<-an trivial cy] at g;obtain⟨b4,b5,c2,aw⟩:=MO l.gv b8.out W.out.1 W.out.2.1;have bz:b4.vals.length=av:=by obtain⟨ds,dt,bg,_⟩:=D9 aw;rw[y] at bg;injection bg with _ bg _;omega
    have HS:Hid _:=l.setG W.out.1 b5 (vb:=b0) (vcap:=b1) (by rw[y,bz]) m a9 ck;have cw:be={(AC call true p j).2 with glob:=(AC call true p j).2.glob.set z ⟨b4.name,b4.vals.set m a9⟩}:=by rw[g];unfold RS.put;rw[c2];show({(AC call true p j).2 with glob:=(AC call true p j).2.glob.set z ⟨((AC call true p j).2.glob.getD z default).name,(((AC call true p j).2.glob.getD z default).vals.set (Int.toNat (m:Int)) a9)⟩}:RS)=_;rw[Dg,b5,Lo];rfl
    have ed:ad.cell? (Ac U 4)=some (Ar bh G.length da):=l.cel 4 _ rfl;obtain⟨dw,dx,dh,_,ce⟩:=Gt l.gro W.out.1;cases dh;have dv:ad.cell? (Ac bh (z*6+2))=some (Ar b0 av b1):=(ce 2 (by omega)).trans (C4 some y);rw[y,bz] at aw;have bf:=aw.cellAt m (by omega);rw[CC,Bb (by omega)] at bf;obtain⟨c3,ea⟩: ∃c3,ad.cell? (Ac b0 m)=some (Aa c3):=⟨_,bf⟩;have du:=aw.frozenAt m;have c8:Hid _:=cw;have c6:Hid _:=P.out.2.trans aa;clear l aa M q x P an Q c1 a0 au cw g ai cy ce aw bf b5 c2 y bz c9;go_wp2_with(go_at_call 178;refine Aq af ?_);go_ret;rw[c8.out];exact⟨rfl,ap,aq,HS.out.1,c6.out.trans HS.out.2⟩
  ·obtain⟨ee,b1,y,_⟩:=D9 au;rw[y] at a0;rw[Ae (by unfold G8;simpa using br)] at g;have df:=Mb k a6 9;have ai:Hid _:=g;have c5:Hid _:=P.out.2;clear k a2 ax a8 r a6 bx b2 b3 bu g bi az bp P au y;generalize(AC call true o n).2=j at*;generalize t.vals.length=av at*;have dk:ab<0\/(¬ab<0/\ab>=(av:Int)):=by omega
   clear br;rcases dk with db|⟨db,dy⟩
   all_goals(
    go_upto_region 9 with(first|(go_at_call 178;refine Aq x ?_)|(go_at_call 179;refine df.mono ?_;rintro f ad⟨rfl,M,dn⟩));have q:=ae.out ad ah ac _ M.out;have ak:AC call true p (j.fail 9)=(0,j.fail 9):=Ez rfl;rw[ak] at q;clear ak;go_upto_region 10 with(go_at_call 177;refine q.mono ?_;rintro f ef⟨v4,rfl,d0,dm,b7⟩);obtain⟨dp,dq,bl,cf⟩:=b7.out;have dc:=Hu bl true;have c4:Hid _:=And.intro bl ((c5.out.trans (Kf.of_par dn)).trans cf);clear bl cf b7 q x ae dm;go_wp2_with(go_at_call 178;refine Aq dc ?_);go_ret;rw[ai.out]
    exact⟨rfl,dp,dq,c4.out⟩)
theorem Aff(Q:L->J9 E H)(u:XK E L U X cap B T c V Y G Z H call 177 (d+1) O)(P:CK E L U X cap B T c V Y G Z H call (d+1) O)(h:RA U X cap B T c V Y G Z H w C J S){s:PS}(i:An T s)(k:AN T .name s=true)(g:s.code=0)(e:Bool)(a:(DE T none O s).2.code=0)(b:A5 E (DE T none O s).1=none)(m:e=true->L):
 Ah 173 #[Al U,Aa (s.next:Nat),Aa d,.bool e] w (SP U X cap B T c V Y G Z H (DE T none O s).2.next (Co B call e (DE T none O s).1 S) w J):=by
 unfold DE at a b⊢;by_cases r:Aj T Bl (Ab s)=true
 ·rw[Ag r] at a b⊢;exact AfX D I M A P h i k g e r a b m
 ·rw[Ae r] at a b⊢;by_cases f:Aj T BL (Ab s)=true
  ·rw[Ag f] at a b⊢;have t:=Af4 D I K N M A u h i k g e f a b m;have j:=JJ D i k;have ad:=h.siz;have ac:s.next+1<T.length:=j;have l:(s.next:Int)+1=(((Ab s).next:Nat):Int):=by show _=((s.next+1:Nat):Int);omega
   have o:=Dw h j l BK (I _ (by decide));have p:=Dw h j l BL (I _ (by decide));have q:=Dw h j l Bl (I _ (by decide));rw[DU f (by decide)] at o;rw[f] at p;rw[DU f (by decide)] at q;clear h a b;unfold SP at t⊢;change Calls _ _ _ _ fun z x=>z=.returned (Aa (((O (Am T BK (Cg T O (Ab (Ab s))).2)).2.next:Nat):Int))/\Hid (∃W v,RA U X cap B T c V Y G Z H x W v (Co B call e (.put (Ad T s).text (Ad T s).pos (O (Ab (Ab s))).1 (O (Am T BK (Cg T O (Ab (Ab s))).2)).1) S)/\Kf U G H J v w x);generalize Co B call e _ S=aa at*;generalize(O (Am T BK (Cg T O (Ab (Ab s))).2)).2=ae at*;simp only[bs] at o p q;go_enter func173,ntmps173;go_upto_region 2 with(go_at_call 94;refine Aq o ?_);go_upto_region 3 with(go_at_call 94;refine Aq p ?_);go_upto_region 4 with(go_at_call 94;refine Aq q ?_);go_wp2_with(go_at_call 196;refine t.mono ?_;rintro ab af⟨rfl,y⟩);go_ret;exact⟨rfl,y.out⟩
  ·rw[Ae f] at a b⊢;by_cases n:Aj T BK (Ab s)=true
   ·rw[Ag n] at a b⊢;exact Abc D I K M A Q u h i k g e n a b m
   ·rw[Ae n] at a;exfalso;have R:Av T (AI T 4 (Ab s)):=fun _=>by unfold AI;simp
    have:=Lk N R a;have F:(Ab s).code=0:=g;unfold AI at this;simp[F] at this
end
theorem AgZ{b:Af}{p:Nat}{a e:Bool}(f:e=(a&& !S.stop.isSome&& !(S.unit B).stop.isSome)):
 Co B call a (.read b p) S=if e then(match(S.due B a).input with|[]=>(S.due B a).fail 11|d::c=>({S.due B a with input:=c}:RS).set b d) else S.due B a:=
 (Nq (t:=.read b p) (F:=fun S=>match S.input with|[]=>S.fail 11|d::c=>({S with input:=c}:RS).set b d) (call:=call) (fun S=>by rw[Cr];rfl) f).1
theorem Fj.varK(h:Fj E G H){e:Af}(c:(E.kindIx e).1=0):(∃(b:Nat)(a:GC),H[b]? =some a/\a.name.toList=e.toList/\a.kind=0)\/ ∃(b:Nat)(a:GC),J7 G H e b a/\a.kind=0:=by
 obtain⟨q,l,t⟩:=h.her;unfold Ao.kindIx at c;cases j:A9 E.here e with
 |some b=>
  obtain⟨n,m⟩:=Og _ j;have o:=OZ n;obtain⟨a,g,i⟩:=Ts (L:=H) (k:=b) (y:=E.here.getD b default) (by rw[l,CR n];exact o);have p:=h.zer _ (Ct o);rw[<-i] at m p;exact .inl ⟨b,a,g,m,p⟩
 |none=>
  rw[j] at c;cases k:A9 E.glob e with
  |none=>rw[k] at c;cases c
  |some b=>
   rw[k] at c;obtain⟨a,g,i,s⟩:=h.got k;refine .inr ⟨b,a,⟨g,i,fun f u r=> ?_⟩,?_⟩
   ·have d:f.sy∈E.here++q:=by rw[<-l];exact CD.2 ⟨f,u,rfl⟩
    rcases BD.1 d with d|d
    ·exact absurd r (MJ j _ d)
    ·have:=(t _ d).1;rw[show f.sy.kind=f.kind from rfl] at this;omega
   ·have:((E.glob.getD b default).kind:Int)=0:=c;rw[s] at this;have:((a.kind:Nat):Int)=0:=this;omega
section
variable(h:RA U X cap B T c V Y G Z H w C J S)
include h
theorem Ajh{s:PS}(j:An T s)(o:(∃(b:Nat)(a:GC),H[b]? =some a/\a.name.toList=(Ad T s).text.toList/\a.kind=0)\/ ∃(b:Nat)(a:GC),J7 G H (Ad T s).text b a/\a.kind=0):
 Ah 194 #[Al U,Aa (s.next:Nat),Aa 0] w fun d g=> ∃(q:Int)(c:Nat),d=.returned (Aa q)/\g=w.drewN c:=by
 rcases o with⟨b,a,f,k,e⟩|⟨b,a,p,e⟩
 ·have m:Ah 208 #[Al U,Aa (s.next:Nat)] w fun d g=>d=.returned (.tuple #[Aa 0,Aa (-1)])/\ ∃c,g=w.drewN c:=by
   have B:=h.siz;have v:(s.next:Int)<T.length:=by unfold An at j;omega
   obtain⟨_,_,t⟩:=h.curCells j;have D:w.cell? (Ac U 0)=some (Ar X T.length cap):=h.cel 0 _ rfl;have I:w.cell? (Ac U 5)=some Z:=h.cel 5 _ rfl;have i:=fun c=>GV ((Kt h.hro).drew (w:=w) c) (by rw[BF];exact h.nd.2.2) (Ad T s).text;have A:=h.nd.2.2;rw[LD h.nd.2 f k] at i;obtain⟨n,u,rfl,_,l⟩:=Gt h.hro f;have r:w.cell? (Ac n (b*6+1))=some (Aa (a.kind:Nat)):=l 1 (by omega);rw[e] at r;have z:=(BH.1 f).1;have y:(b:Int)<(H.length:Int):=by omega
   have x:(b:Int)>=0:=by omega
   simp only[Es] at i;clear h l k e;generalize(Ad T s).text=C at*;go_enter func208,ntmps208;go_wp2;go_quiet(first|(go_at_call 152;exact Calls.quiet_of_same (i _)));go_wp2;go_ret2;exact⟨rfl,_,rfl⟩
  have E:w.cell? (Ac U 1)=some (Aa 2):=h.cel 1 _ rfl;have F:w.cell? (Ac U 2)=some (Aa 0):=h.cel 2 _ rfl;clear h f k e;go_enter func194,ntmps194;go_wp2_with(go_at_call 208;refine m.mono ?_;rintro d J⟨rfl,c,rfl⟩);go_ret;exact⟨_,_,rfl,rfl⟩
 ·have:=Q6 h j p;rw[e] at this;refine this.mono ?_;rintro d g⟨rfl,c,rfl⟩;exact⟨_,_,rfl,rfl⟩
theorem RA.inpT{v:Int}{r:List Int}(n:S.input=v::r){d off ab K off' cp':Nat}(D:C=.slice (some (Ac d off)) ab K)(e:off'=off+1\/r=[])(af:r.length<=cp'):RA U X cap B T c V Y G Z H (w.setCell ⟨U,7,none⟩ (.slice (some (Ac d off')) r.length cp')) (.slice (some (Ac d off')) r.length cp') J {S with input:=r}:=by
 have ag:=h.lt;have R:=h.tlt;have A: ∀b,b≠U->(w.setCell ⟨U,7,none⟩ (.slice (some (Ac d off')) r.length cp')).heap[b]? =w.heap[b]? :=fun b Q=>Below.heap_setCell _ _ _ _ Q;have f: ∀{a:TypeId}{E:Nat}{v:Value}{q:Nat}{F:List Value},w.ownsRow (U+1) a E v q F->(w.setCell ⟨U,7,none⟩ (.slice (some (Ac d off')) r.length cp')).ownsRow (U+1) a E v q F:=fun e=>Cq e fun b a=>A b (by have:=(e.lt b a).1;omega)
 have N:=h.inp.2 d (by
  obtain⟨x,I,a,_⟩:=h.inp.1;rw[n] at a;rw[D] at a⊢;injection a with l m y;subst m
  rfl)
 refine⟨h.cel.set (o:=7) (by simp[Dy]) _,fun o=>by rw[Cu];exact h.frz o,fun aa ac P=> ?_,R,h.siz,h.bud,h.use,⟨?_,fun b a=> ?_⟩,f h.gro,f h.hro,⟨h.gv.1,fun b g i=> ?_⟩,⟨h.hv.1,fun b g i=> ?_⟩,f h.oro,h.apt,⟨h.bnd.1,fun j W=>h.bnd.2 j (by rw[n];exact F8 _ W)⟩,h.nd,fun g i=>f (h.cvr g i),fun x q ae a=>by injection a with l m y;omega⟩
 ·rw[World.cell?_of_block (w:=w) (A X (by omega))];exact h.tok aa ac P
 ·obtain⟨x,I,a,z,k⟩:=h.inp.1;rw[n] at z k;refine⟨some (Ac d off'),cp',rfl,by simp at z⊢;omega,?_⟩;rcases e with rfl|e
  ·refine .inr ⟨d,off+1,rfl,by simp[World.setCell];omega,fun p O=> ?_⟩;rcases k with k|⟨ad,ah,L,_,M⟩
   ·cases k
   ·rw[D,L] at a;injection a with l m y;cases l;have:=M (p+1) (by simp;exact O);rw[World.cell?_of_block (w:=w) (Below.heap_setCell _ _ _ _ (by show d≠U;omega)),show off+1+p=off+(p+1) by omega,this];simp
  ·exact .inl e
 ·cases r with
  |nil=>cases a
  |cons ai r=>cases a;exact N
 ·obtain⟨j,s,t,u⟩:=h.gv.2 b g i;exact⟨j,s,t,f u⟩
 ·obtain⟨j,s,t,u⟩:=h.hv.2 b g i;exact⟨j,s,t,f u⟩
end
theorem Ahn{a:Af}{c:Int}{b:List Int}(S:RS):({S with input:=b}:RS).set a c={S.set a c with input:=b}:=by
 unfold RS.set;cases e:JK S.here a with
 |some d=>rfl
 |none=>
  cases f:JH S.glob a with
  |some d=>rfl
  |none=>rfl
theorem Ahm{a:Af}{b:Int}(S:RS):(S.set a b).input=S.input:=by
 unfold RS.set;cases JK S.here a with
 |some c=>rfl
 |none=>cases JH S.glob a<;>rfl
theorem Agk(A:Fj E G H)(h:RA U X cap B T c V Y G Z H w C J S){s:PS}(r:An T (Ab s))(ag:AN T .name (Ab s)=true)(i:Bool)(n:A5 E (.read (Ad T (Ab s)).text (Ad T (Ab s)).pos)=none):
 Ah 180 #[Al U,Aa (s.next:Nat),.bool i] w (SP U X cap B T c V Y G Z H (s.next+2) (Co B call i (.read (Ad T (Ab s)).text (Ad T (Ab s)).pos) S) w J):=by
 have a7:=h.siz;have a3:s.next+1<T.length:=r;have F:(s.next:Int)+1=(((Ab s).next:Nat):Int):=by show _=((s.next+1:Nat):Int);omega
 have ae:(Ad T (Ab s)).kind.r=1:=by
  have:(Ad T (Ab s)).kind=.name:=by simpa[AN] using ag
  rw[this];rfl
 have I:=OF h r F ae;have a9:w.cell? (Ac U 2)=some (Aa 0):=h.cel 2 _ rfl;rw[A5] at n
 have M:(E.kindIx (Ad T (Ab s)).text).1=0:=by
  unfold Dz at n;split at n
  ·assumption
  ·cases n
 have L:=Ajh h r (A.varK M);rw[<-F] at L I;obtain⟨O,t⟩: ∃O,O=(i&& !S.stop.isSome&& !(S.unit B).stop.isSome):=⟨_,rfl⟩;have x:Hid (∀o,_):=fun o=>Lm (h.below (GG o (Below.refl w.heap.size w))) i;rw[<-t] at x;have av:=(Nq (call:=call) (t:=.read (Ad T (Ab s)).text (Ad T (Ab s)).pos) (F:=fun S=>match S.input with|[]=>S.fail 11|e::b=>({S with input:=b}:RS).set (Ad T (Ab s)).text e) (fun S=>by rw[Cr];rfl) t).2;obtain⟨k,a⟩: ∃k,k=Co B call i (.read (Ad T (Ab s)).text (Ad T (Ab s)).pos) S:=⟨_,rfl⟩;rw[<-a];rw[AgZ t] at a;have an:Hid (∀(Q:World)(aj ak:Value)(y:RS),RA U X cap B T c V Y G Z H Q aj ak y->Lv G H y (Ad T (Ab s)).text):=fun Q aj ak y ap=>A.varAt ap M;have aa:((s.next+2:Nat):Int)=(s.next:Int)+1+1:=by omega
 unfold SP;rw[aa];have a0:Hid (RA U X cap B T c V Y G Z H w C J S):=h;clear h n M A t aa F ae ag;generalize S.due B i=l at*;go_enter func180,ntmps180;go_upto_region 5 with(first|(go_at_call 124;refine Aq I ?_)|(go_at_call 194;refine L.mono ?_;rintro D bb⟨ba,o,rfl,rfl⟩));have ac:=x.out o;go_upto_region 6 with(go_at_call 176;refine ac.mono ?_;rintro D u⟨rfl,d,ah⟩);have v:Hid (Kf U G H J J w u):=(Kf.of_par (As.of_below (GG o (Below.refl w.heap.size w)))).trans (Kf.of_par ah);have p:u.cell? (Ac U 7)=some C:=d.out.cel 7 _ rfl;clear ac x L I ah;cases O with
 |false=>
  have j:Hid (k=l):=a;clear a p;obtain⟨az,ai,rfl,_⟩:=d.out.inp.1;go_wp2_with fail;go_ret;rw[j.out];exact⟨rfl,_,J,d.out,v.out⟩
 |true=>
  have au:=av rfl;obtain⟨az,ai,rfl,af,m⟩:=d.out.inp.1;cases f:l.input with
  |nil=>
   rw[f] at a p;have j:Hid (k=l.fail 11):=a;have ab:=Mb d.out au 11;rw[f] at ab;clear a m;go_wp2_with(go_at_call 179;refine ab.mono ?_;rintro D P⟨rfl,g,ay⟩);go_ret;rw[j.out];exact⟨rfl,_,J,g.out,v.out.trans (Kf.of_par ay)⟩
  |cons e b=>
   rw[f] at a m p;have K:k=({l with input:=b}:RS).set (Ad T (Ab s)).text e:=a;rw[Ahn] at K;have j:Hid _:=K;rcases m with m|⟨R,off,rfl,a4,ad⟩
   ·cases m
   ·have W:=ad 0 (by simp);have ao:u.cell? (Ac R off)=some (Aa e):=W;have aw:VB e:=d.out.bnd.2 e (by rw[f];exact Rt);have q:=Zm d.out r (i:=(s.next:Int)+1) (by show _=((s.next+1:Nat):Int);omega) (an.out u _ J _ d.out) e aw;have al:Hid (l.input=e::b):=f;rw[f] at q af;simp only[Bg] at p af q;clear a K ad W f;have a5:(0:Int)<((b.length+1:Nat):Int):=by omega
    have a6: ¬((b.length+1:Nat):Int)=0:=by omega
    go_upto_region 10 with(go_at_call 195;refine q.mono ?_;rintro D P⟨rfl,g,ax⟩);have a8:P.cell? (Ac U 7)=some (.slice (some (Ac R off)) (b.length+1) ai):=g.out.cel 7 _ rfl;have a1:=g.out.frz 7;have a2:=g.out.cpi _ _ _ rfl;have am:Hid (∀N z,(N=off+1\/b=[])->b.length<=z->_):=fun N z aq ar=>g.out.inpT (v:=e) (r:=b) (off':=N) (cp':=z) (by rw[Ahm];exact al.out) rfl aq ar;clear q d p ao;go_wp2_with fail;all_goals go_ret
    all_goals rw[j.out]
    all_goals exact⟨rfl,_,J,am.out _ _ (by first|exact .inl rfl|exact .inr (Mi (by omega))) (by omega),v.out.trans (ax.trans (Kf.of_par (Kr U 7 P _)))⟩
end
