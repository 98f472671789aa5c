/- For every text, every list of numbers and every fuel, lecternlaw.Runs returns true: the program's Run answers what the document's does; nothing that was handed in or came out is kept. No condition. -/
import Derived.Deep.CutRange
import Derived.Deep.DeepCutAuto
import Derived.Deep.RegionHeld3
import Derived.Test.YtklobognaldjpaaGreatCDcl11
import Derived.Test.YtklobognaldjpaaGreatCRx54
import Derived.Test.YtklobognaldjpaaGreatCRu6
import Derived.Test.YtklobognaldjpaaGreatRows
import Derived.WalkKit
import Derived.ProofKit
import Derived.OpenShut
import Derived.ShutString
import Derived.ChangeOld
import Derived.ChangeSlices
import Derived.SizedLaws
import Derived.Below
set_option maxRecDepth 1000000
set_option maxHeartbeats 8000000
namespace Go.Proofs.YtklobognaldjpaaGreat
open Go.Proofs.Tryz
open Go.RowKit
section
variable{U O cap:Nat}{T:List Az}{m:Option Nm}{n:Nm}{w V:World}{s:PS}
theorem Ag4(a:AR T)(m:Option Ao)(kind:Nat){s:PS}(l:An T s)(n:Av T s)(k:(Bn T s).code≠0):(CO T m kind s).2=Bn T s:=by have j:=IC a l n;have b:=Gg a m false s kind (DB T (Bn T s)) j.good j.stk;have c:=b.trans (Om a m s (DB T (Bn T s)) b.good b.stk);have d:=c.trans (LI a (DZ T m kind s).1 c.good c.stk);have e:=d.trans (B4 a (f:=AJ) Ai d.good d.stk);have f:=e.trans (Ja a T.length (EJ T m kind s).1 _ e.good e.stk);have g:=f.trans (B4 a (f:=Bc) Ai f.good f.stk);have h:=g.trans (GN a ((DS T m kind s).1.map Ao.enter) 14 g.good g.stk);have i:=h.trans (B4 a (f:=By) Ai h.good h.stk);exact(i.trans (B4 a (f:=AQ) Ai i.good i.stk)).still k
theorem Ag5(b:AR T)(A:Cj T)(a:RD U O cap T V m w s)(d:An T s)(e:Av T s)(i:Int)(B:At s i)(kind:Nat)(c:(Bn T s).code≠0):
 Ah 97 #[Al U,Aa i,Aa kind] w (F9 U O cap T V m (CO T (Ax m) kind s).1 (CO T (Ax m) kind s).2):=by
 have q:=LY b a.rw d e i B .name 1 rfl (.inl (by decide));rw[Qr] at q;have n:=EY b d e;have p:=fun f(g:RW U O cap T m f (Ap T s).2)=>FD b g n.good n.stk (Ap T s).2.next (fun _=>rfl) Bl (A _ (by decide))
 have l:Am T Bl (Ap T s).2=Bn T s:=rfl;rw[l] at p;have y:=IC b d e;have v:Hid ((CO T (Ax m) kind s).2=Bn T s):=Ag4 b (Ax m) kind d e c;have z:=fun f(g:RW U O cap T m f (Bn T s))=>Lc g y.good;clear l;generalize Bn T s=j at*;have F:((j.code:Int) !=0)=true:=by simp;omega
 have u:Hid (∀t,At j t):=fun t a=>absurd a c;have x:Hid (j.code=0->Ax m=(CO T (Ax m) kind s).1):=fun a=>absurd a c;clear c;go_enter func97,ntmps97;go_wp2_with(first|(go_at_call 124;refine q.mono ?_;rintro k G⟨rfl,r,C⟩)|(go_at_call 123;refine(p _ r).mono ?_;rintro k H⟨rfl,h,D⟩;have E:=h.fault)|(go_at_call 126;refine(z _ h).mono ?_;rintro k I⟨rfl,o⟩;obtain rfl:=o.symm;clear o));go_ret;unfold F9;rw[v.out];exact⟨_,m,rfl,u.out _,rfl,x.out,(a.step r C).step h D⟩
theorem Tryz.infoString:(prog.info? 9).map (fun a=>(a.zero,a.size,a.bytes))=some (some (.string ⟨#[]⟩),1,16):=by kernel_rfl
theorem AeP{b:Option Ao}{c s:PS}{n:Nat}(a:(FC T b c n s).code=0):FC T b c n s=s:=by
 unfold FC at*;split
 ·rfl
 ·simp only at a;split
  ·rename_i d;rw[Ag d] at a;simp[stop] at a
  ·rfl
theorem Abf{b:Option Ao}{kind:Nat}{s:PS}:At (DZ T b kind s).2 (Bn T s).next:=by intro a;have c:(DZ T b kind s).2=(BM T b false s kind (DB T (Bn T s)) (Bn T s)).2:=AeP a;rw[c] at a⊢;rw[Oc a]
theorem AeO{d:Ao}{c s:PS}{n:Nat}(f:Av T s)(b:4<n):FC T (some d) c n s=AI T 7 {s with next:=c.next}:=by
 unfold FC;simp only;by_cases a:s.code=0
 ·rw[Ag (And.intro a b)];simp[AI,stop,a];rfl
 ·rw[Ae (fun b=>a b.1)];have e:=f a;simp only[AI,Ae a];rw[<-e]
theorem Ag6(h:AR T)(G:Cj T)(E:RD U O cap T V m w s)(H:An T s)(ac:Av T s)(ay:Int)(fw:At s ay)(kind:Nat)(ct:Cb (Ax m) s)(d1:(Bn T s).code=0):
 Ah 97 #[Al U,Aa ay,Aa kind] w (F9 U O cap T V m (CO T (Ax m) kind s).1 (CO T (Ax m) kind s).2):=by
 have fo:s.code=0:=(IC h H ac).code d1;obtain rfl:=fw fo;have hm:=E.rw.size;have g8:s.next<T.length:=H;have aj:=EY h H ac;have dx:=LY h E.rw H ac s.next (fun _=>rfl) .name 1 rfl (.inl (by decide));rw[Qr] at dx;have dw:=fun q(r:RW U O cap T m q (Ap T s).2)=>FD h r aj.good aj.stk (Ap T s).2.next (fun _=>rfl) Bl (G _ (by decide))
 have ar:Am T Bl (Ap T s).2=Bn T s:=rfl;rw[ar] at dw;clear ar;have X:=IC h H ac;have e5:=fun q(r:RW U O cap T m q (Bn T s))=>AbJ h r X.good;have dt:=fun q(r:RD U O cap T V m q (Bn T s))=>PG r H false ⟨#[]⟩ kind (fun E=>by cases E) none 0 0 (DB T (Bn T s)) (fun n c2 _=>by subst c2;exact AT (Cb.row (E:=n.E) ct false) (by omega));unfold EP at dt;have bx:=PR h (Ax m) kind H ac;have cr:At (DZ T (Ax m) kind s).2 (Bn T s).next:=Abf
 have dh:Hid ((DZ T (Ax m) kind s).2.code=0->Cb (DZ T (Ax m) kind s).1 (DZ T (Ax m) kind s).2):=fun B=>RU h (kind:=kind) ct H ac B;have cc:Hid ((DZ T (Ax m) kind s).1=(BM T (Ax m) false s kind (DB T (Bn T s)) (Bn T s)).1/\(DZ T (Ax m) kind s).2=FC T (Ax m) s (DB T (Bn T s)) (BM T (Ax m) false s kind (DB T (Bn T s)) (Bn T s)).2):=⟨rfl,rfl⟩;have fr:=Gg h (Ax m) false s kind (DB T (Bn T s)) X.good X.stk;have a3:Hid (∀R,Ax R=(BM T (Ax m) false s kind (DB T (Bn T s)) (Bn T s)).1->R.isSome=m.isSome):=by show∀R,_;intro R f6;exact P1 f6
 have dg:Hid (CO T (Ax m) kind s=((DS T (Ax m) kind s).1.map Ao.leave,Am T AQ (Am T By (AK T (AL T ((DS T (Ax m) kind s).1.map Ao.enter) 14) (Am T Bc (DS T (Ax m) kind s).2)).2))):=rfl;have df:Hid (DS T (Ax m) kind s=Et T T.length (EJ T (Ax m) kind s).1 (Am T AJ (EJ T (Ax m) kind s).2)):=rfl;have cd:Hid (EJ T (Ax m) kind s=Hx T (DZ T (Ax m) kind s).1 (DZ T (Ax m) kind s).2):=rfl;have de:Hid (∀b9,Ax m=some b9-> ∀e,(DS T (Ax m) kind s).1=some e->(DS T (Ax m) kind s).2.code=0->0<e.glob.length/\e.fresh=true):=by show∀b9,_;intro b9 e8 e aj X;rw[e8] at aj X;exact AcG h H ac aj X
 have dc:Hid ((EJ T (Ax m) kind s).2.code=0->Cb (EJ T (Ax m) kind s).1 (EJ T (Ax m) kind s).2):=fun B=>Vs h (kind:=kind) ct H ac B;have bz:=Oo h (Ax m) kind H ac;generalize CO T (Ax m) kind s=ez at*;generalize DS T (Ax m) kind s=cg at*;generalize EJ T (Ax m) kind s=v at*;generalize DZ T (Ax m) kind s=M at*;generalize BM T (Ax m) false s kind (DB T (Bn T s)) (Bn T s)=ai at*;generalize DB T (Bn T s)=W at*;generalize Bn T s=b8 at*;have gv:b8.next<T.length:=X.good;go_enter func97,ntmps97;go_upto_region 8 with(first|(go_at_call 124;refine dx.mono ?_;rintro g hx⟨rfl,dy,fz⟩)|(go_at_call 123;refine(dw _ dy).mono ?_;rintro g h1⟨rfl,cp,f3⟩;have fp:=cp.fault;rw[d1] at fp)|(go_at_call 127;refine(e5 _ cp).mono ?_;rintro g h2⟨rfl,bn⟩;obtain rfl:=bn.symm;clear bn)|(go_at_call 125;refine(dt _ ((E.step dy fz).step cp f3)).mono ?_;rintro g h3⟨rfl,ah,bf,bp⟩));obtain⟨d,dn⟩: ∃d:Bool,d=(m.isSome&&decide (4<W)):=⟨_,rfl⟩;have J:Hid (d=(m.isSome&&decide (4<W))):=dn;clear dn
 go_cut [44] (fun gm ad=>gm=.bool d/\RD U O cap T V ah ad ai.2)
 case first=>
  have ab:=bp.rw.mode_;have D:=a3.out _ bf;cases x:ah with
  |none=>
   have t:d=false:=by rw[J.out,<-D,x];rfl
   subst t;rw[x] at ab;simp only[CU] at ab;clear D J;go_wp2_with fail;go_meet;exact⟨rfl,bp⟩
  |some a=>
   rw[x] at ab;simp only[CU] at ab;by_cases bo:4<W
   ·have t:d=true:=by rw[J.out,<-D,x];simp[bo]
    subst t;have e4:(4:Int)<(W:Int):=by omega
    clear D J bo;go_wp2_with fail;go_meet;exact⟨rfl,bp⟩
   ·have t:d=false:=by rw[J.out,<-D,x];simp[bo]
    subst t;have e4: ¬(4:Int)<(W:Int):=by omega
    clear D J bo;go_wp2_with fail;go_meet;exact⟨rfl,bp⟩
 case rest=>
 obtain⟨rfl,cl⟩:=hcut;go_upto_if 44 with fail
 go_cut [8] (fun gn ad=>gn=Aa (W:Int)/\RD U O cap T V ah ad M.2)
 case first=>
  have D:=a3.out _ bf;have bj:=cc.out.2;cases Y:d with
  |true=>
   have b:m.isSome=true/\4<W:=by have:=J.out;rw[Y] at this;simpa using this.symm
   obtain⟨aq,bq⟩: ∃aq,Ax m=some aq:=by
    cases m with
    |none=>simp at b
    |some a=>exact⟨_,rfl⟩
   have d0:=fun q(r:RW U O cap T ah q ai.2)=>H8 (r.at s.next) (s:={ai.2 with next:=s.next}) H 7 s.next (fun _=>rfl);have a6:M.2=AI T 7 {ai.2 with next:=s.next}:=by rw[bj,bq];exact AeO fr.stk b.2
   rw[<-a6] at d0;clear bj D a6 b Y J bq;go_wp2_with(go_at_call 98;refine(d0 _ cl.rw).mono ?_;rintro g h4⟨rfl,fk,f4⟩);go_meet;exact⟨rfl,cl.step fk f4⟩
  |false=>
   have a6:M.2=ai.2:=by
    rw[bj];cases x:m with
    |none=>rfl
    |some a=>
     show FC T (some a.E) s W ai.2=ai.2;have b: ¬4<W:=by have:=J.out;rw[Y,x] at this;simpa using this
     unfold FC;simp only;rw[Ae (fun E=>b E.2)]
   have eo:Hid (RD U O cap T V ah wc M.2):=by show RD _ _ _ _ _ _ _ _;rw[a6];exact cl
   clear bj D a6 Y J;go_wp2_with fail;go_meet;exact⟨rfl,eo.out⟩
 case rest=>
  obtain⟨rfl,ck⟩:=hcut;have fb:=fun q(r:RW U O cap T ah q M.2)=>D3 h r bx.good bx.stk b8.next cr AJ (G _ (by decide));have cb:Hid (Ax ah=M.1):=by show _=_;rw[cc.out.1];exact bf
  go_upto_if 52 with(first|(go_at_call 94;refine(fb _ ck.rw).mono ?_;rintro g h5⟨rfl,a7⟩;obtain rfl:=a7.symm;clear a7))
  go_cut [1,9] (fun gl _ ad=> ∃(y:Int)(I:Option Nm),gl=Aa y/\At v.2 y/\I.isSome=m.isSome/\Hid (v.2.code=0->Ax I=v.1)/\RD U O cap T V I ad v.2)
  case first=>
   cases B:Aj T AJ M.2 with
   |true=>
    have a5:v=M:=by rw[cd.out];unfold Hx;rw[Ag B]
    have D:=a3.out _ bf;have ce:Hid (∃(y:Int)(I:Option Nm),Value.int .i64 (b8.next:Int)=Aa y/\At v.2 y/\I.isSome=m.isSome/\Hid (v.2.code=0->Ax I=v.1)/\RD U O cap T V I wc v.2):=by show∃y I,_;rw[a5];exact⟨_,ah,rfl,cr,D,fun _=>cb.out,ck⟩
    clear a5 D B;go_wp2_with fail;go_meet;exact ce.out
   |false=>
    have a5:v=C1 T M.1 M.2:=by rw[cd.out];unfold Hx;rw[Ae (by rw[B];simp)]
    have D:=a3.out _ bf;have a9:=Wr h G ck bx.good bx.stk b8.next cr (fun j=>by rw[cb.out];exact dh.out j);rw[cb.out,<-a5] at a9;clear a5 B;go_wp2_with(go_at_call 128;refine a9.mono ?_;rintro g ej⟨eg,c7,rfl,cq,c5,cw,P⟩);go_meet;exact⟨eg,c7,rfl,cq,c5.trans D,cw,P⟩
  case rest=>
   obtain⟨gh,I,rfl,fm,gd,di,dr⟩:=hcut;have au:=B4 h (f:=AJ) Ai bz.good bz.stk;have fe:=FD h dr.rw bz.good bz.stk gh fm AJ (G _ (by decide));have db:Hid ((Am T AJ v.2).code=0->Ax I=v.1/\Cb v.1 (Am T AJ v.2)):=fun j=>by have b:=NB j;exact⟨di.out b,(dc.out b).le au.le⟩
   generalize Am T AJ v.2=b6 at*;have fc:=fun q R(r:RW U O cap T R q b6)=>D3 h r au.good au.stk b6.next (fun _=>rfl) CJ (G _ (by decide));have g2:b6.next<T.length:=au.good;go_wp2_with(first|(go_at_call 123;refine fe.mono ?_;rintro g gq⟨rfl,bc,c1⟩)|(go_at_call 94;refine(fc _ _ bc).mono ?_;rintro g gr⟨rfl,b⟩;obtain rfl:=b.symm;clear b));go_loopw [1,10] (fun ay gj wr=> ∃(i:PS)(C:Option Nm)(bg:Nat)(e:Option Ao),ay=Aa (i.next:Int)/\gj=.bool (Aj T CJ i)/\RD U O cap T V C wr i/\C.isSome=m.isSome/\An T i/\Av T i/\Hid (i.code=0->Ax C=e/\Cb e i)/\T.length<=i.next+bg/\Hid (Et T bg e i=cg)) (fun ay _ _=>T.length -(intOf ay).toNat)
   case atStart=>exact⟨b6,I,T.length,v.1,rfl,rfl,dr.step bc c1,gd,au.good,au.stk,db,by omega,df.out.symm⟩
   case round=>
    obtain⟨i,C,bg,e,rfl,rfl,cj,ed,bw,c4,a1,hi,bh⟩:=hrel;have g3:i.next<T.length:=bw;have bk:Hid (C.isSome=m.isSome):=ed;clear ed;cases B:Aj T CJ i with
    |true=>
     have d2:=Cp h c4 Ai B;have cx:=AD h bw B Ai;obtain⟨cv,cu⟩:=a1.out d2;obtain⟨b5,rfl⟩: ∃b5,bg=b5+1:=⟨bg -1,by omega⟩;have c6:Av T (Ab i):=A4 d2;have a9:=Wr h G (show RD U O cap T V C wr (Ab i) from cj.at _) cx c6 ((i.next:Int)+1) (fun _=>by show _=((i.next+1:Nat):Int);omega) (fun _=>by rw[cv];exact cu.le (Ic _));rw[cv] at a9;have ao:=JI h e cx c6;have Q:=B4 h (f:=AQ) Ai ao.good ao.stk;have ff:=fun q R y(c0:At (C1 T e (Ab i)).2 y)(r:RW U O cap T R q (C1 T e (Ab i)).2)=>FD h r ao.good ao.stk y c0 AQ (G _ (by decide));have dd:Hid ((Am T AQ (C1 T e (Ab i)).2).code=0->(C1 T e (Ab i)).2.code=0/\Cb (C1 T e (Ab i)).1 (Am T AQ (C1 T e (Ab i)).2)):=fun j=>by have b:=NB j;exact⟨b,(RR h (cu.le (Ic _)) cx c6 b).le Q.le⟩
     have ev:Hid (Et T b5 (C1 T e (Ab i)).1 (Am T AQ (C1 T e (Ab i)).2)=cg):=by show _=_;rw[<-bh.out,Aen B]
     have hd:i.next+1<=(Am T AQ (C1 T e (Ab i)).2).next:=AT ao.le Q.le
     generalize C1 T e (Ab i)=da at*;generalize Am T AQ da.2=b7 at*;have fd:=fun q R(r:RW U O cap T R q b7)=>D3 h r Q.good Q.stk b7.next (fun _=>rfl) CJ (G _ (by decide));have g4:b7.next<T.length:=Q.good;clear bh B a1 cv cu;go_wp2_with(first|(go_at_call 128;refine a9.mono ?_;rintro g ej⟨eg,c7,rfl,cq,c5,cw,P⟩)|(go_at_call 123;refine(ff _ _ _ cq P.rw).mono ?_;rintro g gq⟨rfl,bc,c1⟩)|(go_at_call 94;refine(fd _ _ bc).mono ?_;rintro g gr⟨rfl,b⟩;obtain rfl:=b.symm;clear b))
     go_roundw
     case rel=>exact⟨b7,c7,b5,da.1,rfl,rfl,P.step bc c1,c5.trans bk.out,Q.good,Q.stk,(fun j=>⟨cw (dd.out j).1,(dd.out j).2⟩),by omega,ev⟩
     case measure=>simp[intOf];omega
    |false=>
     have bi:Hid (cg=(e,i)):=by show _=_;rw[<-bh.out,Ti B]
     have aa:=B4 h (f:=Bc) Ai bw c4;have fg:=FD h cj.rw bw c4 i.next (fun _=>rfl) Bc (G _ (by decide));have ep:Hid ((Am T Bc i).code=0->Ax C=e):=fun j=>(a1.out (NB j)).1
     have et:Hid (∀a,C=some a->(Am T Bc i).code=0->0<a.E.glob.length/\a.E.fresh=true/\e=some a.E):=by
      show∀a,_;intro a ax j;have ak:=NB j;have b:=(a1.out ak).1;rw[ax] at b
      obtain⟨aq,bq⟩: ∃aq,Ax m=some aq:=by
       have dm:=bk.out;rw[ax] at dm;cases m with
       |none=>simp at dm
       |some ht=>exact⟨_,rfl⟩
      have a7:=de.out aq bq a.E (by rw[bi.out];exact b.symm) (by rw[bi.out];exact ak);exact⟨a7.1,a7.2,b.symm⟩
     have ew:Hid (ez=(e.map Ao.leave,Am T AQ (Am T By (AK T (AL T (e.map Ao.enter) 14) (Am T Bc i)).2))):=by show _=_;rw[dg.out,bi.out]
     generalize Am T Bc i=k at*;have g7:k.next<T.length:=aa.good;clear bh B a1 bi dg de df cd dh cc a3 dc db di;go_upto_region 20 with(first|(go_at_call 123;refine fg.mono ?_;rintro g ej⟨rfl,dz,eb⟩;have P:=cj.step dz eb;clear dz eb));obtain⟨ae,dp⟩: ∃ae:Bool,ae=(C.isSome&&decide (k.code=0)):=⟨_,rfl⟩;have K:Hid (ae=(C.isSome&&decide (k.code=0))):=dp;clear dp
     go_cut [87] (fun go ad=>go=.bool ae/\RD U O cap T V C ad k)
     case first=>
      have ab:=P.rw.mode_;have fq:=P.rw.fault;cases x:C with
      |none=>
       have t:ae=false:=by rw[K.out,x];rfl
       subst t;rw[x] at ab;simp only[CU] at ab;clear K;go_wp2_with fail;go_meet;exact⟨rfl,P⟩
      |some a=>
       rw[x] at ab;simp only[CU] at ab;by_cases j:k.code=0
       ·have t:ae=true:=by rw[K.out,x];simp[j]
        subst t;rw[j] at fq;clear K j;go_wp2_with fail;go_meet;exact⟨rfl,P⟩
       ·have t:ae=false:=by rw[K.out,x];simp[j]
        subst t;have hp:((k.code:Int)==0)=false:=by simp;omega
        clear K j;go_wp2_with fail;go_meet;exact⟨rfl,P⟩
     case rest=>
     obtain⟨rfl,ds⟩:=hcut;go_upto_if 87 with fail
     go_cut [11,12] (fun _ _ ad=> ∃p,p.isSome=m.isSome/\Hid (k.code=0->Ax p=e.map Ao.enter)/\RD U O cap T V p ad k)
     case first=>
      cases Y:ae with
      |false=>
       have ce:Hid (∃p,p.isSome=m.isSome/\Hid (k.code=0->Ax p=e.map Ao.enter)/\RD U O cap T V p wc k):=by
        show∃p,_;refine⟨C,bk.out,fun j=> ?_,ds⟩;have b:=K.out;rw[Y,j] at b;cases x:C with
        |none=>have ak:=ep.out j;rw[x] at ak;rw[<-ak];rfl
        |some a=>rw[x] at b;simp at b
       clear Y K;go_wp2_with fail;go_meet;exact ce.out
      |true=>
       have ci:C.isSome=true/\k.code=0:=by have b:=K.out;rw[Y] at b;simpa using b.symm
       obtain⟨a,ax⟩:=KN.1 ci.1;have j:=ci.2;obtain⟨d7,d4,du⟩:=et.out a ax j;have fa:(some a:Option Nm).isSome=m.isSome:=by rw[<-ax];exact bk.out
       have al:RD U O cap T V (some a) wc k:=ax▸ds;have a8:=al.rw.env a rfl;have cn:=al.own a rfl;obtain⟨ek,b3⟩:=cn.g;obtain⟨c,af,aw,g5,g6⟩:=b3.form d7;obtain⟨f,br⟩: ∃f,a.E.glob.length=f+1:=⟨a.E.glob.length -1,by omega⟩;have fs:=a8.gcell;have he:=a8.glen;have g9:=a8.hlen;have b2:wc.ownsRow V.heap.size 207 6 (Ar c a.E.glob.length af) a.E.glob.length ek:=by rw[aw] at b3;exact b3
       have hf:=al.lt;obtain⟨hw,gt⟩: ∃gp,wc.cell? (Ac c (f*6+5))=some gp:=by have g:=b2.cellAt (f*6+5) (by omega);have ho:ek.length=a.E.glob.length*6:=b2.1;exact⟨_,g.trans (Bb (by omega))⟩
       have gu:=b2.frozenAt (f*6+5);have dk:wc.cell? (Ac c (f*6+4))=some Aw:=by have b:=cn.last d4 c (by rw[aw];rfl);rw[br] at b;exact b
       have ex:Hid (∀az,RD U O cap T V (some a.stale) (wc.setCell ⟨c,f*6+5,none⟩ az) k):=fun az=>(al.setGlob aw f 5 (.inr rfl) az).stale;have em:Hid (∀az,(wc.setCell ⟨c,f*6+5,none⟩ az).cell? (Ac c (f*6+4))=some Aw):=fun az=>by rw[Bh _ _ _ _ (by simp)];exact dk
       have e9: ∃b1 bu,a.hv=.slice b1 a.E.here.length bu:=by
        rcases a8.h with⟨ar,bm⟩|⟨o,N,ar,_,_⟩
        ·exact⟨none,0,by rw[ar,bm];rfl⟩
        ·exact⟨_,_,ar⟩
       obtain⟨b1,bu,ea⟩:=e9;rw[aw,br] at fs;have a2:Hid (a.gv=Ar c a.E.glob.length af):=aw;have eu:Hid (a.hv=.slice b1 a.E.here.length bu):=ea;have ca:Hid (a.E.glob.length=f+1):=br;have er:Hid (k.code=0->Ax (some a.stale.enter)=e.map Ao.enter):=fun _=>by rw[du];rfl
       have gx:f<=600:=by omega
       clear Y K du d4 aw ea br b2 b3 cn a8 ci d7 dk;go_wp2_with fail;go_loopw [12] (fun y wr=> ∃(l:Nat)(z:Value)(a0:List Value),y=Aa (l:Int)/\l<=a.E.here.length/\RD U O cap T V (some a.stale) wr k/\wr.cell? (Ac c (f*6+4))=some z/\wr.ownsRow V.heap.size 9 1 z l a0/\ ∀o,z.ownBlock=some o->o≠c/\a.hv.ownBlock≠some o) (fun y _=>a.E.here.length -(intOf y).toNat)
       case atStart=>exact⟨0,Aw,[],rfl,B6 _,ex.out _,em.out _,World.ownsRow_nil _ _ _ _,fun o F=>by simp[Value.ownBlock] at F⟩
       case round=>
        obtain⟨l,z,a0,rfl,hb,Z,e0,bv,ag⟩:=hrel;have am:=Z.rw.env a.stale rfl;have ba:=Z.own a.stale rfl;have fv:wr.cell? (Ac U 5)=some (.slice b1 a.E.here.length bu):=by have b:=am.hcell;rw[<-eu.out];exact b
        have cy:wr.cell? (Ac U 4)=some (Ar c (f+1) af):=by have b:=am.gcell;rw[<-ca.out,<-a2.out];exact b
        by_cases f5:l<a.E.here.length
        ·have hh:(l:Int)<((a.E.here.length:Nat):Int):=by omega
         obtain⟨F,cs,b0,d3⟩:=am.h.block (by show 0<a.E.here.length;omega);obtain⟨bl,_,_⟩:=d3 l f5;have cz:wr.cell? (Ac U 5)=some (Ar F a.E.here.length cs):=by have b:=am.hcell;rw[b0] at b;exact b
         obtain⟨gs,ef⟩:=ba.g;have b4:wr.ownsRow V.heap.size 207 6 (Ar c a.E.glob.length af) a.E.glob.length gs:=by have b:=ef;rw[show a.stale.gv=Ar c a.E.glob.length af from a2.out] at b;exact b
         have e2:=b4.frozenAt (f*6+4);have d5:=(b4.lt c rfl).2;have gy:=Z.base;obtain⟨gg,fx,ga,gb,gc⟩:=info_parts Tryz.infoString;have c3:z.ownBlock≠some c:=fun g=>(ag c g).1 rfl;have hj: ∀o,z.ownBlock=some o->o<wr.heap.size:=fun o an=>(bv.lt o an).2;have cf:Hid (∀d,(wr.alloc d).drew.cell? (Ac c (f*6+4))=some z):=fun d=>by show(wr.alloc d).cell? (Ac c (f*6+4))=some z;rw[(Ee wr d).cell (p:=Ac c (f*6+4)) d5];exact e0
         have ey:Hid (∀d,(wr.alloc d).drew.frozen? (Ac c (f*6+4))=false):=fun d=>by show(wr.alloc d).frozen? (Ac c (f*6+4))=false;rw[(Ee wr d).frozen (p:=Ac c (f*6+4)) d5];exact e2
         generalize(a.stale.E.here.getD l default).name=ap at*
         have el:Hid (∀(d:Obj)(S:World)(u N:Nat),(wr.alloc d).drew.grownBy S z.ownBlock->S.ownsRow V.heap.size 9 1 (Ar u (l+1) N) (l+1) (a0++[.string ap])->(z.ownBlock=some u\/u=wr.heap.size+1)->
          RD U O cap T V (some a.stale) (S.setCell ⟨c,f*6+4,none⟩ (Ar u (l+1) N)) k/\(S.setCell ⟨c,f*6+4,none⟩ (Ar u (l+1) N)).cell? (Ac c (f*6+4))=some (Ar u (l+1) N)/\
          (S.setCell ⟨c,f*6+4,none⟩ (Ar u (l+1) N)).ownsRow V.heap.size 9 1 (Ar u (l+1) N) (l+1) (a0++[.string ap])/\ ∀o,(Value.slice (some (Ac u 0)) (l+1) N).ownBlock=some o->o≠c/\a.hv.ownBlock≠some o):=by
          show∀d S u N,_;intro d S u N d9 f8 bt
          have d8:u≠c:=by
           rcases bt with b|b
           ·exact(ag u b).1
           ·omega
          have fu:a.hv.ownBlock≠some u:=by
           rcases bt with b|b
           ·exact(ag u b).2
           ·intro g;obtain⟨h6,gf⟩:=ba.h;have:=(gf.lt u g).2;omega
          have e6:RD U O cap T V (some a.stale) (wr.alloc d).drew k:=Z.below ((Ee wr d).drew)
          have e7:RD U O cap T V (some a.stale) S k:=e6.grownElse d9 (fun gi fy=>(bv.lt gi fy).1) (fun n c2 o an=>by
           cases c2;refine⟨fun g=> ?_,(ag o an).2⟩;have bm:a.gv.ownBlock=some o:=g;rw[a2.out] at bm;have ch:c=o:=by simpa[Value.ownBlock] using bm
           exact(ag o an).1 ch.symm)
          have ft:S.cell? (Ac c (f*6+4))=some z:=by rw[d9.cell_far _ (by simp;omega) (Ey c3)];exact cf.out d
          refine⟨e7.setGlob (n:=a.stale) a2.out f 4 (.inl ⟨rfl,rfl⟩) _,DW _ _ _ ft,ownsRow_setCell_other f8 (by simp[Value.ownBlock];exact d8) _,fun o an=> ?_⟩;have ch:o=u:=by simp[Value.ownBlock] at an;exact an.symm
          subst ch;exact⟨d8,fu⟩
         have dv:(f:Int)<(f:Int)+1:=by omega
         have ee:=Z.rw.lt;have fn:F<wr.heap.size:=De bl;have ec:z.ownBlock≠some U:=fun g=>by have b:=(bv.lt U g).1;have ak:=Z.lt;omega
         have Q:c≠U:=by have b:=(b4.lt c rfl).1;have ak:=Z.lt;omega
         have ao:c≠F:=fun g=>ba.apart c (by rw[show a.stale.gv=Ar c a.E.glob.length af from a2.out];rfl) (by rw[b0,g];rfl);have f7:z.ownBlock≠some F:=fun g=>(ag F g).2 (by show a.stale.hv.ownBlock=some F;rw[b0];rfl);clear am ba ag ef b4 d3 b0 fv;go_wp2_with fail;have a4:Hid (∀d,(wr.alloc d).drew.cell? (Ac U 4)=some (Ar c (f+1) af)/\(wr.alloc d).drew.cell? (Ac U 5)=some (Ar F a.E.here.length cs)/\(wr.alloc d).drew.cell? (Ac F (l*6))=some (.string ap)):=fun d=>⟨by show(wr.alloc d).cell? _=_;rw[(Ee wr d).cell (p:=Ac U 4) ee];exact cy,by show(wr.alloc d).cell? _=_;rw[(Ee wr d).cell (p:=Ac U 5) ee];exact cz,by show(wr.alloc d).cell? _=_;rw[(Ee wr d).cell (p:=Ac F (l*6)) fn];exact bl⟩;refine wp_region_held_drew (S:=fun c9=>c9.cell? (Ac U 4)=some (Ar c (f+1) af)/\c9.cell? (Ac U 5)=some (Ar F a.E.here.length cs)/\c9.cell? (Ac F (l*6))=some (.string ap)) (by kernel_rfl) ⟨cy,cz,bl⟩ (fun gw=> ?_);show WA 0 _
         iterate 12 (refine NE (v:= ?_) rfl (by kernel_rfl) (fun _ _ _ E=>E) (.inl ⟨by rfl,?_⟩) (by assumption) ?_;(rotate_left;focus(intro w bd;(try dsimp only at bd);go_simp;try with_reducible rfl));(try simp only[Act.put,List.setIfInBounds_toArray]))
         show WA 13 _
         iterate 8 (refine NE (v:= ?_) rfl (by kernel_rfl) (fun _ _ _ E=>E) (.inl ⟨by rfl,?_⟩) (by assumption) ?_;(rotate_left;focus(intro w bd;(try dsimp only at bd);go_simp;try with_reducible rfl));(try simp only[Act.put]))
         refine wpAnyH_ready (rs:=[12,21]) (by kernel_rfl) (by simp) ?_;refine AllReadyH.cons rfl (fun L A=> ?_) (AllReadyH.cons rfl (fun L A=> ?_) AllReadyH.nil)
         focus
          go_simp;refine A.out _ _ ⟨cy,cz,bl⟩ (fun _=> ?_);clear A L;try simp only[Act.put,List.setIfInBounds_toArray,List.set_cons_zero,List.set_cons_succ]
          refine wpAnyH_ready (rs:=[21]) (by kernel_rfl) (by simp) ?_;refine AllReadyH.cons rfl (fun L A=> ?_) AllReadyH.nil
         rotate_left
         focus
          go_simp;refine A.out _ _ (a4.out _) (fun _=> ?_);clear A L;try simp only[Act.put,List.setIfInBounds_toArray,List.set_cons_zero,List.set_cons_succ]
          refine wpAnyH_ready (rs:=[12]) (by kernel_rfl) (by simp) ?_;refine AllReadyH.cons rfl (fun L A=> ?_) AllReadyH.nil;have gz:=cf.out
         all_goals
          go_simp;refine A.out _ _ (a4.out _) (fun _=> ?_);clear A L;try simp only[Act.put,List.setIfInBounds_toArray,List.set_cons_zero,List.set_cons_succ]
          refine wpAnyH_ready (rs:=[22]) (by kernel_rfl) (by simp) ?_;refine AllReadyH.cons rfl (fun L A=> ?_) AllReadyH.nil
          refine step_append_lies _ (by rfl) _ _ _ (by rfl) V.heap.size 9 gg _ 1 16 underlying45 fx ga gb gc rfl (by omega) z l a0 (by rfl) ((bv.alloc _).drew)
           (Ac wr.heap.size 0) 1 1 [.string ap] (by rfl) (by rfl) (World.news_of_block (cs:= #[.string ap]) (t:=9) (fr:=(0,0)) (heap_alloc_new wr _)) (by simp[Value.oneCell'])
           (by omega) (by unfold maxLen;omega) (by omega) (by simp;omega) (wr.heap.size+1) (by simp) ?_
          intro e3 e1 ei f9 av bt hg;have hn:ei.cell? (Ac c (f*6+4))=some z:=(by rw[av.cell_far _ (by simp;omega) (Ey c3)];exact cf.out _);have g0:ei.frozen? (Ac c (f*6+4))=false:=(by rw[av.frozen_far _ (by simp;omega) (Ey c3)];exact ey.out _);refine A.out _ _ ⟨(by rw[av.cell_far _ (by simp;omega) (Ey ec)];exact(a4.out _).1),(by rw[av.cell_far _ (by simp;omega) (Ey ec)];exact(a4.out _).2.1),(by rw[av.cell_far _ (by simp;omega) (Ey f7)];exact(a4.out _).2.2)⟩ (fun cm=> ?_);clear A L;try simp only[Act.put,List.setIfInBounds_toArray]
          show WA 23 _
          iterate 2 (refine NE (v:= ?_) rfl (by kernel_rfl) (fun _ _ _ E=>E) (.inl ⟨by rfl,?_⟩) (by assumption) ?_;(rotate_left;focus(intro w bd;(try dsimp only at bd);go_simp;try with_reducible rfl));(try simp only[Act.put]))
          refine wpAnyH_ready (rs:=[25]) (by kernel_rfl) (by simp) ?_;refine AllReadyH.cons rfl (fun L A=> ?_) AllReadyH.nil;go_simp;refine A.out _ _ ⟨(by rw[Bh _ _ _ _ (by intro g;have t:=C4 Addr.block g;exact Q t)];exact cm.1),(by rw[Bh _ _ _ _ (by intro g;have t:=C4 Addr.block g;exact Q t)];exact cm.2.1),(by rw[Bh _ _ _ _ (by intro g;have t:=C4 Addr.block g;exact ao t)];exact cm.2.2)⟩ (fun _=> ?_);refine wpAnyH_done (by kernel_rfl) ?_ _;clear A L;go_wp2_with fail
          go_roundw
          all_goals first|exact⟨l+1,_,a0++[.string ap],by go_num,by omega,el.out _ _ e3 e1 av f9 (by simpa using bt)⟩|(simp[intOf];omega)
        ·have hc:((a.E.here.length:Nat):Int)<=(l:Int):=by omega
         have ha:=am.ins;have g1:=Z.rw.frz 6;have es:Hid (RD U O cap T V (some a.stale.enter) (wr.setCell ⟨U,6,none⟩ (Aa (f:Int))) k):=by have b:=Z.enter (by show 0<a.E.glob.length;rw[ca.out];omega);rw[show((a.stale.E.glob.length:Nat):Int) -1=(f:Int) from by show((a.E.glob.length:Nat):Int) -1=_;rw[ca.out];omega] at b;exact b
         clear am ba ag;go_wp2_with fail;go_meet;exact⟨some a.stale.enter,fa,er.out,es.out⟩
     case rest=>
      obtain⟨p,ge,dj,al⟩:=hcut
      have dl:(AK T (AL T (Ax p) 14) k).2=(AK T (AL T (e.map Ao.enter) 14) k).2:=by
       by_cases j:k.code=0
       ·rw[dj.out j]
       ·rw[(GN h (Ax p) 14 aa.good aa.stk).still j,(GN h (e.map Ao.enter) 14 aa.good aa.stk).still j]
      have dv:Ah 122 #[Al U,Aa (k.next:Int),Aa 1,.bool false] wc (Du U O cap T p (AK T (AL T (e.map Ao.enter) 14) k).2 wc):=by have b:=Xv (m:=p) h G wc k k.next false al.rw aa.good aa.stk (fun _=>rfl);rw[<-dl];exact b
      have be:=GN h (e.map Ao.enter) 14 aa.good aa.stk;have d6:=B4 h (f:=By) Ai be.good be.stk
      have en:Hid ((Am T AQ (Am T By (AK T (AL T (e.map Ao.enter) 14) k).2)).code=0->Ax (p.map Nm.leave)=e.map Ao.leave):=fun j=>by
       have aj:=be.code (NB (NB j));have X:=dj.out aj;have bn:Ax (p.map Nm.leave)=(Ax p).map Ao.leave:=by cases p<;>rfl
       rw[bn,X];cases e<;>rfl
      generalize(AK T (AL T (e.map Ao.enter) 14) k).2=c8 at*;have fh:=fun q y(c0:At c8 y)(r:RW U O cap T (p.map Nm.leave) q c8)=>FD h r be.good be.stk y c0 By (G _ (by decide));generalize Am T By c8=eh at*;have fi:=fun q(r:RW U O cap T (p.map Nm.leave) q eh)=>FD h r d6.good d6.stk eh.next (fun _=>rfl) AQ (G _ (by decide));clear dl;go_wp2_with(first|(go_at_call 122;refine dv.mono ?_;rintro g hy⟨hs,rfl,fl,bb,f0⟩;have dq:=(al.step bb f0).leave;obtain⟨hu,hk⟩:=KN.1 (bb.ext 5 (.inl rfl));obtain⟨hv,hl⟩:=KN.1 (bb.ext 6 (.inr rfl));have hq:=bb.frz 5;have hr:=bb.frz 6)|(go_at_call 123;have _q:=co;refine(fi _ co).mono ?_;rintro g h0⟨rfl,fj,f2⟩)|(go_at_call 123;refine(fh _ _ fl dq.rw).mono ?_;rintro g hz⟨rfl,co,f1⟩));go_ret;unfold F9;rw[ew.out];exact⟨_,p.map Nm.leave,rfl,fun _=>rfl,by rw[<-ge];cases p<;>rfl,en.out,(dq.step co f1).step fj f2⟩
theorem Agt(a:AR T)(f:Cj T):Rz U O cap T V:=by
 intro m w s h kind e c d g i;by_cases b:(Bn T s).code=0
 ·exact Ag6 a f e c d h g kind (i ((IC a c d).code b)) b
 ·exact Ag5 a f e c d h g kind b
end
theorem Agn(s:Af)(w:World):
 Ah 39 #[.string s] w fun a d=>a=.returned (.tuple #[Aa ((B1 s.data.toList).1:Nat),Aa ((B1 s.data.toList).2:Nat)])/\Ay w d:=
 Ago (fun _ _ _ _ _ b c=>Agt b c) s w
def UJ(c:List UInt8)(i:List Int)(b:Int)(w:World)(e:Ending)(d:World):Prop:=
 Ay w d/\((∃a g:Nat,a≠0/\Fa c i b=((0,[],0),a,g)/\e=.returned (.tuple #[Aw,Aa a,Aa g]))\/
  ((B1 c).1=0/\(0<=b/\b<=3000)/\Ej i=true/\ ∃T O cap,DD c=.ok T/\e=.returned (.tuple #[Ar O T.length cap,Aa 0,Aa 0])/\O<d.heap.size/\ ∀f h,(DN T)[f]? =some h->d.cell? (Ac O f)=some h))
theorem Agy(s:Af){T:List Az}(w:World)(n:s.data.toList.length<=600)(d:DD s.data.toList=.ok T):Ah 66 #[.string s] w fun g c=> ∃O cap,g=.returned (.tuple #[Ar O T.length cap,Aa 0,Aa 0])/\Hid (Ay w c/\O<c.heap.size/\ ∀b f,(DN T)[b]? =some f->c.cell? (Ac O b)=some f):=by
 obtain⟨_,j⟩:=Na s.data.toList _ _ T (AA _) d;refine(YM s w (by have:=Fo s;omega)).mono ?_;rintro g c⟨k,⟨m,o,a,rfl⟩|⟨p,q,a,rfl,e⟩⟩
 ·rw[d] at a;cases a
 ·rw[d] at a;cases a;obtain⟨O,cap,rfl,_,l⟩:=e.form j.pos;refine⟨O,cap,rfl,k,l,fun b f h=> ?_⟩;have i:b<(DN T).length:=(BH.1 h).1;rw[e.cellAt b (by rw[e.1] at i;exact i)];exact h
theorem AeR(s:Af)(z:Value)(a:List Int)(c:Int)(w:World)(N:En w z a)(W:a.length<=17592186044000):
 Ah 68 #[.string s,z,Aa c] w (UJ s.data.toList a c w):=by
 have m:=Agn s w;obtain⟨Q,Y,rfl,_,_,n⟩:=N;have C:Hid (a=[]\/ ∃i off,Q=some (Ac i off)/\i<w.heap.size/\ ∀h,h<a.length->w.cell? (Ac i (off+h))=some (Aa (a.getD h 0))):=n;clear n;by_cases e:(B1 s.data.toList).1=0
 ·have p:Hid ((B1 s.data.toList).1=0):=e;rw[e,show((0:Nat):Int)=0 from rfl] at m;generalize(B1 s.data.toList).2=X at*;clear e;by_cases g:0<=c/\c<=3000
  ·have F: ¬c<0:=by omega
   have G: ¬c>3000:=by omega
   have u:Hid (0<=c/\c<=3000):=g;obtain⟨_,v,T,t,_⟩:=OK p.out;have K:=fun k=>Agy s k v t;have D:Hid (DD s.data.toList=.ok T):=t;clear g v t;go_enter func68,ntmps68;go_wp2_with(go_at_call 39;refine m.mono ?_;rintro q k⟨rfl,d⟩);go_loop [11] (fun h=> ∃b:Nat,h=Aa b/\b<=a.length/\Ej (a.take b)=true) (fun h=>a.length -(intOf h).toNat)
   case atStart=>exact⟨0,rfl,B6 _,rfl⟩
   case round=>
    obtain⟨b,rfl,U,o⟩:=hrel;by_cases j:b<a.length
    ·rcases C.out with H|⟨i,off,rfl,M,n⟩
     ·rw[H] at j;simp at j
     ·have S:k.cell? (Ac i (off+b))=some (Aa a[b]):=by rw[d.cell (p:=Ac i (off+b)) M,n b j];simp[List.getD,j]
      have HS:Hid (a.take (b+1)=a.take b++[a[b]]):=by show _=_;rw[Mp,Bb j];rfl
      have B:Hid (¬(-2147483648<=a[b]/\a[b]<=2147483647)->Ej a=false):=fun P=>by unfold Ej;rw[List.all_eq_false];exact⟨a[b],D4 j,by simpa using P⟩
      have V:(b:Int)<(a.length:Int):=by omega
      clear n;generalize a[b]=l at*;by_cases x: -2147483648<=l/\l<=2147483647
      ·have e: ¬l< -2147483648:=by omega
       have g: ¬l>2147483647:=by omega
       have r:Hid (Ej (a.take (b+1))=true):=by show _=_;rw[HS.out];unfold Ej at o⊢;rw[List.all_append,o];simp[x]
       go_wp2
       go_round
       case rel=>exact⟨b+1,by go_num,by omega,r.out⟩
       case measure=>simp[intOf];omega
      ·have f:Hid (Fa s.data.toList a c=((0,[],0),11,0)):=by show _=_;unfold Fa;rw[Ae (by rw[p.out];simp),Ae (by simpa using u.out),Ag (B.out x)]
       by_cases e:l< -2147483648
       ·go_wp2;go_ret3;exact⟨d,.inl ⟨11,0,by omega,f.out,rfl⟩⟩
       ·have g:l>2147483647:=by omega
        go_wp2;go_ret3;exact⟨d,.inl ⟨11,0,by omega,f.out,rfl⟩⟩
    ·obtain rfl:b=a.length:=by omega
     rw[E7] at o;have r:Hid (Ej a=true):=o;clear o;go_wp2_with(go_at_call 66;refine(K _).mono ?_;rintro q Z⟨O,cap,rfl,A⟩);go_ret3;obtain⟨L,I,J⟩:=A.out;exact⟨d.trans (L.mono d.size),.inr ⟨p.out,u.out,r.out,T,O,cap,D.out,rfl,I,J⟩⟩
  ·have f:Hid (Fa s.data.toList a c=((0,[],0),8,0)):=by show _=_;unfold Fa;rw[Ae (by rw[p.out];simp),Ag g]
   by_cases F:c<0
   ·clear g;go_enter func68,ntmps68;go_wp2_with(go_at_call 39;refine m.mono ?_;rintro q k⟨rfl,d⟩);go_ret3;exact⟨d,.inl ⟨8,0,by omega,f.out,rfl⟩⟩
   ·have G:c>3000:=by omega
    clear g;go_enter func68,ntmps68;go_wp2_with(go_at_call 39;refine m.mono ?_;rintro q k⟨rfl,d⟩);go_ret3;exact⟨d,.inl ⟨8,0,by omega,f.out,rfl⟩⟩
 ·have f:Hid (Fa s.data.toList a c=((0,[],0),B1 s.data.toList)):=by show _=_;unfold Fa;rw[Ag e]
  have E:Hid (¬(B1 s.data.toList).1=0):=e;have R:(((B1 s.data.toList).1:Int) !=0)=true:=by simp;omega
  generalize B1 s.data.toList=y at*;clear e;go_enter func68,ntmps68;go_wp2_with(go_at_call 39;refine m.mono ?_;rintro q k⟨rfl,d⟩);go_ret3;exact⟨d,.inl ⟨y.1,y.2,E.out,f.out,rfl⟩⟩
theorem Af8{s:Af}{e:Value}{a:List Int}{w:World}{T:List Az}{O cap b:Nat}(p:(B1 s.data.toList).1=0)(r:b<=3000)(z:Ej a=true)(d:DD s.data.toList=.ok T)(B:O<w.heap.size)(C: ∀k l,(DN T)[k]? =some l->w.cell? (Ac O k)=some l)(i:En w e a)(y:Ir e):
 Ah 69 #[Ar O T.length cap,e,Aa (b:Nat),Aa (b:Nat)] w fun c n=> ∃m,c=.returned (.tuple #[.agg #[Aa ((El (CW s.data.toList) a b).1:Nat),m,Aa ((El (CW s.data.toList) a b).2.2:Nat)],.bool true])/\Hid (n.ownsRow w.heap.size 3 1 m (El (CW s.data.toList) a b).2.1.length ((El (CW s.data.toList) a b).2.1.map (.int .i64))/\Ay w n):=by
 obtain⟨t,M,I,g,x,D⟩:=OK p;rw[d] at g;cases g;obtain⟨L,u⟩:=Na s.data.toList _ _ T (AA _) d;have h:Cj T:=Wa d;have j:=t.look;rw[D] at j⊢
 have E: ∀f,Oq e=some f->f<w.heap.size:=fun f c=>by
  obtain⟨o,K,rfl,_,_,q⟩:=i;rcases q with rfl|⟨J,off,rfl,v,_⟩
  ·cases o<;>cases c
  ·cases a with
   |nil=>cases c
   |cons N a=>cases c;exact v
 exact Af9 u (fun G A=>Th s.data.toList _ _ T (AA _) d G A) h (Wu h) C B (by omega) r i.l E (fun H F=>Y7 z H F) y (s:=⟨0,0,0⟩) rfl rfl x j
theorem Aga{c:List Nat}{b:Nat}{m a:MS}(f:Cc c b m a):m.out.length<=60->a.out.length<=60:=by
 induction f with
 |refl m=>exact id
 |step e _ g _ h=>exact fun d=>h ((T1 g e).2.2.2.1 d)
theorem Aa6{c:List UInt8}{d:List Int}{b:Int}(a: ¬(Fa c d b).2.1≠0):(B1 c).1=0/\(0<=b/\b<=3000)/\Ej d=true/\Fa c d b=(El (CW c) d b.toNat,0,0):=by
 unfold Fa at a⊢;by_cases e:(B1 c).1≠0
 ·rw[Ag e] at a;exact absurd e a
 ·rw[Ae e] at a⊢;by_cases f: ¬(0<=b/\b<=3000)
  ·rw[Ag f] at a;simp at a
  ·rw[Ae f] at a⊢;by_cases g:Ej d=false
   ·rw[Ag g] at a;simp at a
   ·rw[Ae g];exact⟨by simpa using e,by simpa using f,by simpa using g,rfl⟩
theorem Agu:Pn:=by
 intro s a0 n v w A au av a6 a7;have F: ∀o:Obj,Ay w (w.alloc o):=fun o=>AP;have y:=AeR s a0 n v (w.alloc (.cells #[Aa 0,Aw,Aa 0] 39)) (A.under (F _)) av;unfold UJ at y;obtain⟨U,V,ay,_⟩:=id A;subst ay;have r: ∀a,Below (w.heap.size+1) (w.alloc (.cells #[Aa 0,Aw,Aa 0] 39)) a-> ∀o,a.cell? (Ac w.heap.size o)=(#[Aa 0,Aw,Aa 0]:Array Value)[o]? /\a.frozen? (Ac w.heap.size o)=false:=fun a e o=>⟨by rw[e.cell (p:=Ac w.heap.size o) (Nat.lt_succ_self _),Cl],by rw[e.frozen (p:=Ac w.heap.size o) (Nat.lt_succ_self _),Gc]⟩;by_cases x:(Fa s.data.toList n v).2.1≠0
 ·have J:Ah 68 #[.string s,.slice U n.length V,Aa v] (w.alloc (.cells #[Aa 0,Aw,Aa 0] 39)) fun d i=> ∃p u:Nat,d=.returned (.tuple #[Aw,Aa p,Aa u])/\((p:Int) !=0)=true/\Hid (Fa s.data.toList n v=((0,[],0),p,u))/\Below (w.heap.size+1) (w.alloc (.cells #[Aa 0,Aw,Aa 0] 39)) i:=by
   refine y.mono ?_;rintro d i⟨e,⟨p,u,M,L,rfl⟩|⟨E,X,I,_⟩⟩
   ·exact⟨p,u,rfl,by simp;omega,L,e.mono (by simp)⟩
   ·exfalso;apply x;unfold Fa;rw[Ae (by rw[E];simp),Ae (by simpa using X),Ae (by rw[I];simp)]
  clear y x A;go_enter func42,ntmps42;go_wp2_with(go_at_call 68;refine J.mono ?_;rintro d a⟨p,u,rfl,M,ac,h⟩;have ah:=(r _ h 0).1;have ai:=(r _ h 1).1;have aj:=(r _ h 2).1;have a1:=(r _ h 0).2;have a2:=(r _ h 1).2;have a3:=(r _ h 2).2);refine bodyPost_ret (v:=.tuple #[.agg #[Aa 0,Aw,Aa 0],Aa (p:Nat),Aa (u:Nat)]) (by simp[results,results42,go_sem,ah,ai,aj]) rfl ?_;go_light;rw[ac.out];have e:Ay w a:=(F _).trans (h.mono (by omega));exact⟨none,0,rfl,by simp,World.ownsRow_nil _ _ _ _,((e.setCell (AA _) _).setCell (AA _) _).setCell (AA _) _⟩
 ·obtain⟨E,X,I,ag⟩:=Aa6 x;obtain⟨c,rfl⟩: ∃c:Nat,v=c:=⟨v.toNat,by omega⟩;rw[ag,Lo]
  have J:Ah 68 #[.string s,.slice U n.length V,Aa (c:Nat)] (w.alloc (.cells #[Aa 0,Aw,Aa 0] 39)) fun d i=> ∃(T:List Az)(O cap:Nat),d=.returned (.tuple #[Ar O T.length cap,Aa 0,Aa 0])/\Hid (DD s.data.toList=.ok T/\O<i.heap.size/\ ∀B C,(DN T)[B]? =some C->i.cell? (Ac O B)=some C)/\Below (w.heap.size+1) (w.alloc (.cells #[Aa 0,Aw,Aa 0] 39)) i:=by
   refine y.mono ?_;rintro d i⟨e,⟨p,u,M,L,rfl⟩|⟨_,_,_,T,O,cap,an,rfl,ao⟩⟩
   ·rw[L] at x;exact absurd M x
   ·exact⟨T,O,cap,rfl,⟨an,ao⟩,e.mono (by simp)⟩
  obtain⟨b,z⟩: ∃b,b=El (CW s.data.toList) n c:=⟨_,rfl⟩;have ae:Hid (∀a,Below (w.heap.size+1) (w.alloc (.cells #[Aa 0,Aw,Aa 0] 39)) a-> ∀(T:List Az)(O cap:Nat),DD s.data.toList=.ok T/\O<a.heap.size/\(∀B C,(DN T)[B]? =some C->a.cell? (Ac O B)=some C)->Ah 69 #[Ar O T.length cap,.slice U n.length V,Aa (c:Nat),Aa (c:Nat)] a fun d i=> ∃f g,d=.returned (.tuple #[.agg #[Aa (b.1:Nat),.slice f b.2.1.length g,Aa (b.2.2:Nat)],.bool true])/\Hid (i.ownsRow a.heap.size 3 1 (.slice f b.2.1.length g) b.2.1.length (b.2.1.map (.int .i64))/\Ay a i)):=fun a e T O cap q=>by refine(Af8 E (by omega) I q.1 q.2.1 q.2.2 (A.under ((F _).trans (e.mono (by omega)))) au).mono ?_;rw[<-z];rintro d i⟨a9,rfl,Z⟩;obtain⟨f,g,rfl,_⟩:=D9 Z.out.1;exact⟨f,g,rfl,Z⟩
  have ab:Hid (b.2.1.length<=60):=by show _<=_;obtain⟨K,_⟩:=OK E;obtain⟨a5,aq,az⟩:=K.wh;obtain⟨a8,P,_,ax,_⟩:=Zk az aq K.look (by have:=K.len;omega) n c;rw[z,<-ax];exact Aga P (B6 _)
  have ad:Hid (∀a j(f:Option Addr)(g:Nat)(k l m:Value)(D:Obj),Below (w.heap.size+1) (w.alloc (.cells #[Aa 0,Aw,Aa 0] 39)) a->j.ownsRow a.heap.size 3 1 (.slice f b.2.1.length g) b.2.1.length (b.2.1.map (.int .i64))/\Ay a j->Mf (b,0,0) w (.returned (.tuple #[.agg #[Aa (b.1:Nat),.slice f b.2.1.length g,Aa (b.2.2:Nat)],Aa 0,Aa 0])) ((((j.setCell ⟨w.heap.size,0,none⟩ k).setCell ⟨w.heap.size,1,none⟩ l).setCell ⟨w.heap.size,2,none⟩ m).alloc D)):=fun a j f g k l m D e q=>by
   have aw:w.heap.size+1<=a.heap.size:=by have:=e.size;simpa using this
   have ar:Ay w j:=((F _).trans (e.mono (by omega))).trans (q.2.mono (by omega));have Y:=(((ar.setCell (p:=Ac w.heap.size 0) (AA _) k).setCell (p:=Ac w.heap.size 1) (AA _) l).setCell (p:=Ac w.heap.size 2) (AA _) m);refine⟨f,g,rfl,ab.out,?_,Y.alloc Y.size D⟩
   have P:=QH (Cq q.1 (w':=(((j.setCell ⟨w.heap.size,0,none⟩ k).setCell ⟨w.heap.size,1,none⟩ l).setCell ⟨w.heap.size,2,none⟩ m)) fun aa d=>by
    have N:aa≠w.heap.size:=by have:=(q.1.lt aa d).1;omega
    rw[Below.heap_setCell _ (Ac w.heap.size 2) _ _ N,Below.heap_setCell _ (Ac w.heap.size 1) _ _ N,Below.heap_setCell _ (Ac w.heap.size 0) _ _ N]) (show w.heap.size<=a.heap.size by omega)
   exact P.alloc D
  have a4:Hid (b=El (CW s.data.toList) n c):=z;rw[<-z];clear y x A z;go_enter func42,ntmps42;go_wp2_with(first|(go_at_call 68;refine J.mono ?_;rintro d a⟨T,O,cap,rfl,af,h⟩;have ap:=ae.out a h T O cap af.out;have H:Hid _:=h;have aw:=h.size)|(go_at_call 69;refine ap.mono ?_;rintro d j⟨f,g,rfl,W⟩;have t:=fun o=>r j (H.out.trans (W.out.2.mono (by simpa using H.out.size))) o;have G:=(t 0).1;have R:=(t 1).1;have S:=(t 2).1;have a1:=(t 0).2;have a2:=(t 1).2;have a3:=(t 2).2;have Q:w.heap.size<j.heap.size:=De G;clear t));have ak:=fun k l m c=>(MD Q G R S k l m c).1;have al:=fun k l m c=>(MD Q G R S k l m c).2.1;have am:=fun k l m c=>(MD Q G R S k l m c).2.2;refine bodyPost_ret (v:=.tuple #[.agg #[Aa (b.1:Nat),.slice f b.2.1.length g,Aa (b.2.2:Nat)],Aa 0,Aa 0]) (by simp[results,results42,go_sem,ak,al,am]) rfl ?_;go_light;exact ad.out a j f g _ _ _ _ H.out W.out
open Go.ChangeShapes Go.WideShapes Go.ChangeAt
open Go.ChangeMaps (open_string shut_string)
theorem Ahe:ownKnob prog.godebug=none:=by kernel_rfl
theorem Ahb:laidOutB prog=true:=by kernel_rfl
theorem Ag9:prog.bytesOf 3=8:=by kernel_rfl
theorem Adh{d:World}{c:Addr}{len cap:Nat}{b:List Int}(s:len<=cap)(t:cap<=maxLen)(u:b.length=cap)(g: ∀a,a<b.length->d.cell? (c.add a)=some (Aa (b.getD a 0)))(q: ∀n∈b,(Lit.int .i64 n).wf=true):
 En d (.slice (some c) len cap) (b.take len):=by
 have j:(b.take len).length=len:=by rw[It];omega
 refine⟨some c,cap,by rw[j],by omega,fun n o=>bounds_i64 (q n (List.mem_of_mem_take o)),?_⟩;by_cases l:len=0
 ·exact .inl (by rw[l];rfl)
 ·obtain⟨e,off,r⟩:=c;have m:=g 0 (by omega);have p:r=none:=by simpa[Addr.add] using World.cell?_spot m
  subst p
  have h: ∀a,a<(b.take len).length->d.cell? (Ac e (off+a))=some (Aa ((b.take len).getD a 0)):=by
   intro a i;rw[j] at i;have f:=g a (by omega);have k:(b.take len).getD a 0=b.getD a 0:=by simp[List.getD,i]
   rw[k];cases a with
   |zero=>simpa[Addr.add] using f
   |succ a=>simpa[Addr.add] using f
  refine .inr ⟨e,off,rfl,?_,h⟩;exact De (h 0 (by omega))
theorem Adj{f:Type}{h:TypeId×Value->f}{d:World}{b:Option Addr}{len cap:Nat}{g:DataW f}{p:List MemPlace}(i:DataW.Trod h prog d 0 (fun _=>true) true 23 (.slice b len cap) g p):
 ∃e,En d (.slice b len cap) e/\Ir (.slice b len cap)/\(e=[]\/ ∃c s,g=.slice c s/\e.length<=c.length+s.length):=by
 obtain⟨x,k⟩:=i;rcases open_ints underlying23 underlying3 (by kernel_rfl) k with⟨a,_⟩|⟨z,y,v,u,a,_,l,m,t,q,j,o⟩
 ·simp[Value.cells] at a;obtain⟨rfl,rfl,rfl⟩:=a;exact⟨[],En.nil d,Ir.nil,.inl rfl⟩
 ·simp[Value.cells] at a;obtain⟨rfl,rfl,rfl⟩:=a;injection q with r _;refine⟨u.take len,Adh l m (by simpa using t) j o,fun b n w c=>by injection c;omega,.inr ⟨_,_,r,?_⟩⟩;simp[lits]
theorem Adk{c:Type}{f:List TypeId}{e:List (DataW c)}{j:Nat}{d:DataW c}{b:List Int}(i:(DataW.weightsEach prog f e).all (·<=reachBytes)=true)(k:f[j]? =some 23)(h:e[j]? =some d)(g:b=[]\/ ∃a s,d=.slice a s/\b.length<=a.length+s.length):b.length<=17592186044000:=by
 rcases g with rfl|⟨a,s,rfl,m⟩
 ·simp
 ·have:=sized_slice i k h underlying23;rw[Ag9] at this;have l:reachBytes=140737488351232:=rfl;omega
theorem Ahc(o:Os)(S:o.Started)(u:Type)(b:TypeId×Value->u):
 ReturnsInHanded {} Tryz.checked o 4 .any (Rows.runsSpec.pre6 b prog f4 Rows.runsRow.domain false) (Rows.runsSpec.post b prog f4 false true false false):=by
 refine returnsInHanded_of_change_sized (C:=Tryz.checked) Ahe S (by kernel_rfl) func4
  (ChangeSpec.witness6 (enc:=b) (C:=Tryz.checked) false ⟨#[],#[.string ByteArray.empty,Aw,Aa 0],[]⟩ 8 (by kernel_rfl) (by kernel_rfl) (by kernel_rfl) (by kernel_rfl)) ?_
 intro a base args f D Y l i ah k _;have j:(DataW.weightsEach prog (f4.params.toList++Rows.runsSpec.plain.varTypes prog) (f++D)).all (·<=reachBytes)=true:=k;clear k;have c: ∀(n:Nat) q r,f4.params[n]? =some q->args[n]? =some r->Value.okWide prog a .any base q r:=l;have I:=i;obtain⟨p,am,h,H,rfl,ai,aj⟩:=i;have g:DataW.TrodAll b prog a 0 (fun _=>true) true f4.params.toList args.toList f p:=h;rw[params4] at g c j;obtain⟨v0,ap,Z,ac,ak,an,ag,rfl,rfl,F,P⟩:=trodAll_cons g;obtain⟨v1,aq,aa,ad,O,q1,rfl,rfl,rfl,d,Q⟩:=trodAll_cons P;obtain⟨s,ar,ab,ae,al,ao,rfl,rfl,rfl,G,R⟩:=trodAll_cons Q;obtain⟨rfl,rfl,rfl⟩:=trodAll_nil R;obtain rfl:args= #[v0,v1,s]:=by cases args;simp_all
 obtain⟨rfl,rfl⟩:=trodVars_none H;obtain⟨v,rfl,rfl,rfl,V⟩:=open_string underlying9 (c 0 9 v0 rfl rfl) F;obtain⟨w,M,A,rfl⟩:=okWide_slice underlying23 (c 1 23 v1 rfl rfl);have N: ∀T∈O,T.block<a.heap.size:=by obtain⟨m,K⟩:=d;exact DataW.trod_lt m _ _ _ K
 obtain⟨U,L,z,W⟩:=Adj d;have y:=Adk (j:=1) j rfl rfl W;obtain⟨x,rfl,rfl,rfl,t⟩:=open_int underlying3 (c 2 3 s rfl rfl) G;clear h l;obtain⟨B,C⟩:=bounds_i64 t;refine(AaW Agu v (.slice w M A) U x a L z y B C).mono fun af X⟨J,e⟩=> ?_;subst J;exact⟨_,rfl,_,_,_,[],_,[],I,trodAll_mk1 (shut_bool underlying4 _),(trodAll_cons_mk (shut_string underlying9 V) (trodAll_cons_mk (Below.trod Ahb (by kernel_rfl) (of_decide_eq_true (by kernel_rfl)) d e N) (trodAll_cons_mk (shut_int underlying3 t) trodAll_mk0))),rfl,e.frame _,fun E=>by cases E⟩
theorem Ahd:Rows.runsRow.holds Tryz.pinned (OpenSpec.ofChange Rows.runsSpec):=
 OpenClaim.holds_of_wide 4 f4 rfl rfl rfl rfl rfl rfl rfl ⟨rfl,rfl,rfl,rfl,rfl⟩ rfl rfl rfl rfl rfl (by kernel_rfl) func4 (by kernel_rfl)
  (of_decide_eq_true (by kernel_rfl)) (by unfold Func.isWrapper;first|(rw[Ag (by decide+kernel)];kernel_rfl)|(rw[Ae (by decide+kernel)];exact⟨rfl,rfl⟩))
  (fun c d a b _=>Ahc c d a b)
theorem runs_holds:Rows.RunsSaid:=
 Ahd
#print axioms runs_holds
