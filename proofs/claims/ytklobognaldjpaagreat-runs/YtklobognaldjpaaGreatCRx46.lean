/- The reference's walk as it runs: behind proc or func. -/
import Derived.Test.YtklobognaldjpaaGreatCDcl5
set_option maxRecDepth 1000000
set_option maxHeartbeats 8000000
namespace Go.Proofs.YtklobognaldjpaaGreat
open Go.Proofs.Tryz
open Go.RowKit
section
variable{wb O cap B:Nat}{T:List Az}{V:Value}{G:List GC}{w w1:World}{vi U:Value}{S:RS}{gl:List Gl}
structure NY(T:List Az)(E:Ao)(kind:Nat)(r:Ro)(g:GC):Prop where
 sy:g.sy=⟨r.name.1,kind,r.params.length⟩
 cs:g.cs=r.cells
 nd:Pk g.cs
 bdy: ∃sb:PS,sb.next=g.body/\An T sb/\Av T sb/\(AK T (AL T none 14) sb).2.code=0/\(AK T (AL T none 14) sb).1=r.body
 look:Bz {E with glob:=E.glob++[⟨r.name.1,kind,r.params.length⟩],here:=r.cells.map fun a=>⟨a,0,0⟩,inside:=some E.glob.length,fresh:=false} r.body=none
theorem Kf.low{j:Nat}{k:Int}{l:Value}{f:List GC}{m:Value}{i:World}(g:RA wb O cap B T j k V G l f w vi U S)(b:Kf wb G f U m w i):Below wb w i:=by
 have o:=g.lt;have h:=g.low;refine⟨b.fr.os,b.fr.tape,b.fr.output,b.fr.size,fun d n=>b.fr.block d (by omega) ?_⟩;rintro(c|⟨e,a,c⟩|c)
 ·omega
 ·have:=(h e.vv (by unfold BO;simp only[BD,CD] at a⊢;rcases a with a|a;exact .inl (.inl (.inr ⟨e,a,rfl⟩));exact .inl (.inr ⟨e,a,rfl⟩)) d c).1;omega
 ·have:=(h U (by unfold BO;simp) d c).1;omega
def Mx(wb O cap B:Nat)(T:List Az)(d:Int)(V:Value)(G:List GC)(vi U:Value)(S:RS)(w:World)(b:List A8)(e:Nat)(c:World):Prop:=
 ∃(f:Value)(a:List GC),RA wb O cap B T 0 d V G f a c vi U {S with here:=b.map fun g=>(g.1,0)}/\a.map GC.sy=b.map Hh/\a.length<=e/\Below wb w c
theorem Tk: ∀(b:List A8)(a:Ao)(d:List A8),(AX a (b++d)).2=none->(AX a b).2=none/\(AX (AX a b).1 d).2=none
 |[],a,d,e=>by
  have f:AX a []=(a,none):=by rw[AX]
  rw[f];exact⟨rfl,e⟩
 |c::b,a,d,e=>by
  rw[IZ,AX] at e;obtain⟨i,j⟩:=Bq e;obtain⟨g,h⟩:=Tk b _ d j;have f:AX a (c::b)=((AX (Be a true c.1 c.2 0 0).1 b).1,(Be a true c.1 c.2 0 0).2.or (AX (Be a true c.1 c.2 0 0).1 b).2):=by rw[AX]
  rw[f];exact⟨by show Option.or _ _=none;rw[i,g];rfl,h⟩
theorem Xy: ∀(c:Nat)(a:List A8)(s:PS),∃b,(B5 T c a s).1=a++b
 |0,a,s=>⟨[],by rw[B5];simp⟩
 |c+1,a,s=>by
  rw[B5];split
  ·obtain⟨b,d⟩:=Xy c (a++(Bf T (Ab s)).1) (Am T AQ (Bf T (Ab s)).2);exact⟨(Bf T (Ab s)).1++b,by rw[d];simp⟩
  ·exact⟨[],by simp⟩
theorem Tryz.infoStr2:(prog.info? 9).map (fun a=>(a.zero,a.size,a.bytes))=some (some (.string ⟨#[]⟩),1,16):=by kernel_rfl
theorem Zh{G:List GC}{a:GC}{b:Nat}{c:Value}:((G++[a]).flatMap GC.row).set (G.length*6+b) c=G.flatMap GC.row++a.row.set b c:=by
 have d:(G++[a]).flatMap GC.row=G.flatMap GC.row++a.row:=by simp
 rw[d,Pj _ _ (by rw[OL];omega),OL,Jy]
theorem Zf(n:AR T)(fy: ∀gs∈T,gs.val<=2147483647)(J:Cj T)(ge: ∀s,An T s->Aj T AJ s=true-> ¬(Ad T s).kind=.name)(y:RA wb O cap B T 0 (-1) V G Aw [] w vi U S)(fx:S.here=[]){s:PS}(c0:An T s)(cu:s.code=0)(f1:(AZ T s).2.code=0){kind:Nat}(hm:kind=2\/kind=3){p:Ao}(dw:p.glob=G.map GC.sy)(cn:p.here=[])(da:(DJ p kind (AZ T s).1).2=none)(gq: ∀v∈G,v.kind=0-> ∃aj cap,v.vv=.slice aj 1 cap)(g3:G.length<=s.next):
 Ah 97 #[Al wb,Aa (s.next:Nat),Aa (kind:Nat)] w fun d I=>d=.returned (Aa ((AZ T s).2.next:Nat))/\Hid (∃(gx gz g0:Value)(v:GC),RA wb O cap B T 0 (-1) gx (G++[v]) Aw [] I gz g0 {S with glob:=S.glob++[⟨(AZ T s).1.name.1,[]⟩]}/\NY T p kind (AZ T s).1 v/\G.length+1<=(AZ T s).2.next/\Below wb w I):=by
 obtain⟨a,e,H,j,D,cg,ep,dt,F,ar,br,es,cv,cs,a4,ea,cy,gn,gi⟩:=Ag7 n cu f1;rw[gi] at da⊢;have eh:=JJ n c0 ep;have au:=AD n eh dt Ai;have hf:s.next+2<T.length:=au;have c1:=LK br Ai;have an:=LK cs Ai;have c3:=LK cy Ai;have hp:s.next+2<=H.next:=by have:=(X0 n (Ab (Ab s)) au).2;rw[F] at this;exact this
 have hq:H.next+1<=j.next:=by have:=(Tx n T.length [] (Ab H) (AD n c1 br Ai)).2;rw[es] at this;exact this
 have go:=y.siz;unfold DJ at da;obtain⟨b4,av⟩:=Bq da;obtain⟨b5,aw⟩:=Bq b4;unfold Fg at b5 aw av;obtain⟨a6,bk⟩:=Bq b5;obtain⟨c9,_⟩:=Bq a6;obtain⟨cz,cq⟩:=MH c9;dsimp only at cz cq bk aw av;rw[cq] at bk aw av;have gb:=LO a _ bk;rw[gb.1] at aw av;have et:=LO e _ aw;rw[et.1] at av;rw[dw] at cz
 have f8:(Ad T s).kind.r=1:=by
  have:(Ad T s).kind=.name:=by simpa[AN] using ep
  rw[this];rfl
 have gu:w.cell? (Ac wb 2)=some (Aa 0):=y.cel 2 _ rfl;have d6:=OF y c0 rfl f8;have b0:=GQ y eh (i:=(s.next:Int)+1) (by show _=((s.next+1:Nat):Int);omega) Bl (J _ (by decide)) dt;rw[show((((Ab s).next:Nat):Int)+1)=(s.next:Int)+1+1 by show((s.next+1:Nat):Int)+1=_;omega] at b0;have ec:DB T (Ab (Ab s))=a.length:=by have:=Vw n au (show(Ab (Ab s)).code=0 from cu) (by rw[F];exact ar) (fun d=>ge _ au d);rw[F] at this;exact this
 have ck:=Vx (w:=w) (wb:=wb) (tb:=O) (cap:=cap) n (y.cel 0 _ rfl) go (fun g bj=>by have:=y.curCells (s:={s with next:=g}) bj;exact⟨this.1,this.2.2⟩) au;rw[ec,show(((Ab (Ab s)).next:Nat):Int)=(s.next:Int)+1+1 by show((s.next+1+1:Nat):Int)=_;omega] at ck;have cl:=R6 y (Below.refl _ _) (va:=none) (vn:=0) (vc:=0) (xs:=[]) rfl (World.ownsRow_nil _ _ _ _) c0 ⟨#[]⟩ kind a.length cz (by omega) (fun hy gp=>by cases gp);unfold EP at cl;clear b4 b5 a6 c9 cq ec;simp only[bs] at b0;go_enter func97,ntmps97;go_upto_region 8 with(first|(go_at_call 124;refine Aq d6 ?_)|(go_at_call 123;refine Aq b0 ?_)|(go_at_call 127;refine Aq ck ?_)|(go_at_call 125;refine cl.mono ?_;rintro d e4⟨rfl,ad⟩));obtain⟨ao,M,al⟩:=ad.out;have ab:e4.cell? (Ac wb 1)=some (Aa 2):=M.cel 1 _ rfl;obtain⟨m,b1⟩: ∃m,m=({S with glob:=S.glob++[⟨(Ad T s).text,[]⟩]}:RS):=⟨_,rfl⟩;rw[<-b1] at M;have cp:m.here=[]:=by rw[b1];exact fx
 obtain⟨fm,cr⟩: ∃bf,Aj T AJ (Ab (Ab s))=bf:=⟨_,rfl⟩;have bz:=Dw M au (i:=(s.next:Int)+1+1) (by show _=((s.next+1+1:Nat):Int);omega) AJ (J _ (by decide));rw[cr] at bz;simp only[bs] at bz;have fi:Hid (m=({S with glob:=S.glob++[⟨(Ad T s).text,[]⟩]}:RS)):=b1;clear b1 cl d6 ck b0 ad y;go_upto_if 52 with(go_at_call 94;refine Aq bz ?_)
 go_cut [1] (fun ab ba=>ab=Aa (H.next:Nat)/\Hid (Mx wb O cap B T (-1) ao (G++[⟨(Ad T s).text,kind,Aw,a.length,Aw,0,[]⟩]) vi U m w a H.next ba))
 case first=>
  cases fm with
  |true=>
   unfold Cz at F;rw[Ag cr] at F;have A:a=[]:=(C4 Prod.fst F).symm;have Q:H=Ab (Ab s):=(C4 Prod.snd F).symm
   have fc:Hid (Mx wb O cap B T (-1) ao (G++[⟨(Ad T s).text,kind,Aw,a.length,Aw,0,[]⟩]) vi U m w a H.next e4):=by
    rw[A] at M⊢;refine⟨Aw,[],?_,rfl,by simp,al⟩;have:({m with here:=([]:List A8).map fun b=>(b.1,(0:Int))}:RS)=m:=by cases m;cases cp;rfl
    rw[this];exact M
   have dr:(H.next:Int)=(s.next:Int)+1+1:=by rw[Q];show((s.next+1+1:Nat):Int)=_;omega
   have fa:Hid _:=dr;clear M al F A Q dr;go_wp2_with fail;go_meet;exact⟨by rw[fa.out],fc.out⟩
  |false=>
   unfold Cz at F;rw[Ae (by rw[cr];simp)] at F;have a2:=Wt n J M au cu (by rw[F];exact ar) (E:=p.add false ⟨(Ad T s).text,kind,a.length⟩) cn (by rw[F];exact bk) (by simp);rw[F,cp,show(((Ab (Ab s)).next:Nat):Int)=(s.next:Int)+1+1 by show((s.next+1+1:Nat):Int)=_;omega] at a2;have cd:Hid _:=al;clear M al F;go_wp2_with(go_at_call 128;refine a2.mono ?_;rintro d ac⟨rfl,ap⟩);go_meet;obtain⟨bm,cc,E,b8,a6,bw⟩:=ap.out;exact⟨rfl,bm,cc,E,b8,a6,cd.out.trans bw⟩
 case rest=>
  obtain⟨rfl,dm⟩:=hcut;obtain⟨gy,e5,bu,ez,b4,du⟩:=dm.out;have c2:=AD n c1 br Ai;have hb:H.next+1<T.length:=c2;have d4:=GQ bu c1 rfl AJ (J _ (by decide)) br;have dy:=Dw bu c2 (i:=(H.next:Int)+1) (by show _=((H.next+1:Nat):Int);omega) CJ (J _ (by decide));have ff:Hid (Mx wb O cap B T (-1) ao (G++[⟨(Ad T s).text,kind,Aw,a.length,Aw,0,[]⟩]) vi U m w (a++[]) (Ab H).next wc):=⟨gy,e5,by simpa using bu,by simpa using ez,Nat.le_succ_of_le b4,du⟩;simp only[bs] at d4 dy;clear dm bu ez du M al bz ab;go_upto_block 0 with(first|(go_at_call 123;refine Aq d4 ?_)|(go_at_call 94;refine Aq dy ?_))
  go_cut [1,10] (fun ab _ ba=>ab=Aa (j.next:Nat)/\Hid (Mx wb O cap B T (-1) ao (G++[⟨(Ad T s).text,kind,Aw,a.length,Aw,0,[]⟩]) vi U m w (a++e) j.next ba))
  case first=>
   go_wp2_with fail;go_loopw [1,10] (fun ab gt wr=> ∃(h:PS)(L:List A8)(a7:Nat),ab=Aa (h.next:Nat)/\gt=.bool (Aj T CJ h)/\An T h/\h.code=0/\T.length<=h.next+a7/\Hid (B5 T a7 L h=(e,j))/\Hid (Mx wb O cap B T (-1) ao (G++[⟨(Ad T s).text,kind,Aw,a.length,Aw,0,[]⟩]) vi U m w (a++L) h.next wr)) (fun ab _ _=>T.length -(intOf ab).toNat)
   case atStart=>exact⟨Ab H,[],T.length,by show _=Value.int .i64 ((H.next+1:Nat):Int);go_num,rfl,c2,ar,by omega,es,ff.out⟩
   case round=>
    obtain⟨h,L,a7,rfl,rfl,ef,d9,et,bo,ay⟩:=hrel;have ha:h.next<T.length:=ef;cases de:Aj T CJ h with
    |false=>
     have cm:(L,h)=(e,j):=by rw[<-bo.out];cases a7<;>simp[B5,de]
     have e9:Hid (L=e/\h=j):=⟨C4 Prod.fst cm,C4 Prod.snd cm⟩;clear cm bo;go_wp2_with fail;go_meet;obtain⟨A,Q⟩:=e9.out;rw[<-A,<-Q];exact⟨rfl,ay.out⟩
    |true=>
     obtain⟨a8,rfl⟩: ∃a8,a7=a8+1:=⟨a7 -1,by omega⟩;have a3:=bo.out;rw[B5,Ag de] at a3;have c6:=AD n ef de Ai;have hj:h.next+1<T.length:=c6;have ex:=TY n (Ab h) (A4 d9);have ey:=Dq n (f:=AQ) Ai ex.1
     have ee:(Am T AQ (Bf T (Ab h)).2).code=0:=by
      by_cases a0:(Am T AQ (Bf T (Ab h)).2).code=0
      ·exact a0
      ·have:=(QO n a8 (L++(Bf T (Ab h)).1) _ ey.1).2 a0;rw[a3] at this;rw[<-this];exact cv
     obtain⟨bt,eb,ds⟩:=F5 ee;rw[ds] at a3;have ek:=LK bt Ai;have c5:=AD n ek bt Ai;obtain⟨a9,ad,M,df,b5,al⟩:=ay.out;have er:(AX {p.add false ⟨(Ad T s).text,kind,a.length⟩ with here:=(a++L).map Hh} (Bf T (Ab h)).1).2=none:=by obtain⟨bf,z⟩:=Xy (T:=T) a8 (L++(Bf T (Ab h)).1) (Ab (Bf T (Ab h)).2);rw[a3] at z;have q:=aw;rw[show e=L++(Bf T (Ab h)).1++bf from z] at q;obtain⟨Z,a1⟩:=Tk L _ _ (Tk _ _ bf q).1;rw[(LO L _ Z).1] at a1;have ae:(p.add false ⟨(Ad T s).text,kind,a.length⟩).here=[]:=cn;simpa[ae] using a1
     have a2:=Wt n J M c6 d9 eb df.symm er (by show _<=h.next+1;omega);rw[show(((Ab h).next:Nat):Int)=(h.next:Int)+1 by show((h.next+1:Nat):Int)=_;omega] at a2;have dk:Hid (∀(r:World)(a9:Value)(ad:List GC)(be:RS),RA wb O cap B T 0 (-1) ao (G++[⟨(Ad T s).text,kind,Aw,a.length,Aw,0,[]⟩]) a9 ad r vi U be->Ah 123 #[Al wb,Aa ((Bf T (Ab h)).2.next:Nat),.string AQ] r fun d I=>d=.returned (Aa (((Bf T (Ab h)).2.next:Int)+1))/\I=r):=fun r a9 ad be ak=>GQ ak ek rfl _ (J _ (by decide)) bt;have dj:Hid (∀(r:World)(a9:Value)(ad:List GC)(be:RS),RA wb O cap B T 0 (-1) ao (G++[⟨(Ad T s).text,kind,Aw,a.length,Aw,0,[]⟩]) a9 ad r vi U be->Ah 94 #[Al wb,Aa (((Bf T (Ab h)).2.next:Int)+1),.string CJ] r fun d I=>d=.returned (.bool (Aj T CJ (Ab (Bf T (Ab h)).2)))/\I=r):=fun r a9 ad be ak=>Dw ak c5 (by show _=(((Bf T (Ab h)).2.next+1:Nat):Int);omega) _ (J _ (by decide));have fe:Hid _:=a3;have cd:Hid (Below wb w wr):=al;have fk:Hid _:=df;have f9:=(Qn n (Ab h) c6).2;have hr:h.next+1<=(Bf T (Ab h)).2.next:=f9
     have hi:(Bf T (Ab h)).2.next+1<T.length:=c5
     clear M df al ay bo a3 ds ee ey ex bt er;go_upto_region 17 with(go_at_call 128;refine a2.mono ?_;rintro d ac⟨rfl,ap⟩);obtain⟨bm,cc,E,b8,a6,bw⟩:=ap.out;have d1:=dk.out ac bm _ _ E;have dz:=dj.out ac bm _ _ E;have fg:Hid (Mx wb O cap B T (-1) ao (G++[⟨(Ad T s).text,kind,Aw,a.length,Aw,0,[]⟩]) vi U m w (a++(L++(Bf T (Ab h)).1)) (Ab (Bf T (Ab h)).2).next ac):=⟨bm,cc,by simpa using E,by rw[b8,fk.out];simp,Nat.le_succ_of_le a6,cd.out.trans bw⟩;simp only[bs] at d1 dz;clear E b8 bw ap a2 dk dj;go_wp2_with(first|(go_at_call 123;refine Aq d1 ?_)|(go_at_call 94;refine Aq dz ?_))
     go_roundw
     case rel=>exact⟨Ab (Bf T (Ab h)).2,_,a8,by show _=Value.int .i64 (((Bf T (Ab h)).2.next+1:Nat):Int);go_num,rfl,c5,eb,by show T.length<=(Bf T (Ab h)).2.next+1+a8;omega,fe.out,fg.out⟩
     case measure=>simp[intOf];omega
  case rest=>
   obtain⟨rfl,dn⟩:=hcut;obtain⟨P,k,N,b9,c9,cj⟩:=dn.out;have b3:=AD n an cs Ai;have hc:j.next+1<T.length:=b3;have d5:=GQ N an rfl Bc (J _ (by decide)) cs;have ab:wc.cell? (Ac wb 1)=some (Aa 2):=N.cel 1 _ rfl;have gu:wc.cell? (Ac wb 2)=some (Aa 0):=N.cel 2 _ rfl;have ag:k.length=((a++e).map fun b=>b.1).length:=by have:=C4 List.length b9;simpa using this
   have dc: ∀(g:Nat)(b:GC),k[g]? =some b->((a++e).map fun b=>b.1)[g]? =some b.name:=fun g b R=>by
    have q:(k.map GC.sy)[g]? =some b.sy:=by rw[CC,R];rfl
    rw[b9,CC] at q;rw[CC];cases Z:(a++e)[g]? with
    |none=>rw[Z] at q;cases q
    |some bn=>
     rw[Z] at q;have a1:Hh bn=b.sy:=FH q;have fv:bn.1=b.name:=C4 Sy.name a1;show some bn.1=some b.name;rw[fv]
   have fw:k.length<=600:=by omega
   obtain⟨t,x,e0,hg,az⟩:=Gt N.gro (k:=G.length) (g:=⟨(Ad T s).text,kind,Aw,a.length,Aw,0,[]⟩) (by simp);have g4:G.length<=600:=by have:=N.nd.1.2;simp at this;omega
   obtain⟨c,am⟩: ∃c,c=G.length:=⟨_,rfl⟩;rw[AG,List.length_singleton,<-am] at e0;rw[<-am] at az;subst e0;simp only[bs] at d5;have bp:Hid (c=G.length):=am;have ce:Hid (k.length=((a++e).map fun b=>b.1).length):=ag;have g6:c<=600:=by omega
   clear dn am ag;go_upto_if 87 with(go_at_call 123;refine Aq d5 ?_)
   go_cut [11,12] (fun _ _ ba=> ∃i,Hid (RA wb O cap B T 0 ((c:Nat):Int) (Ar t (c+1) x) (G++[⟨(Ad T s).text,kind,Aw,a.length,i,j.next+1,((a++e).map fun b=>b.1)⟩]) P k ba vi U {m with here:=(a++e).map fun b=>(b.1,0)}/\Below wb w ba))
   case first=>
    have am:=bp.out;have hh:t≠wb:=by have:=(N.gro.lt t rfl).1;omega
    have hx:wc.cell? (Ac wb 4)=some (Ar t (c+1) x):=N.cel 4 _ rfl;have g1:wc.cell? (Ac t (c*6+5))=some (Aa 0):=az 5 (by omega);have bi:=N.gro;rw[show(G++[(⟨(Ad T s).text,kind,Aw,a.length,Aw,0,[]⟩:GC)]).length=c+1 by rw[am];simp] at bi;have fs:=bi.frozenAt (c*6+5);have fj:Hid (∃i,RA wb O cap B T 0 (-1) (Ar t (c+1) x) (G++[⟨(Ad T s).text,kind,Aw,a.length,i,j.next+1,((a++e).map fun b=>b.1).take 0⟩]) P k (wc.setCell ⟨t,c*6+5,none⟩ (Aa ((j.next:Int)+1))) vi U {m with here:=(a++e).map fun b=>(b.1,0)}/\Below wb w (wc.setCell ⟨t,c*6+5,none⟩ (Aa ((j.next:Int)+1)))):=by have q:=(bi.stored (c*6+5) (Aa ((j.next:Int)+1))).1;refine⟨Aw,N.lastG rfl rfl (by simp[World.setCell]) (fun g Z _ _=>Below.heap_setCell _ _ _ _ (fun d=>Z (by rw[d];rfl))) ?_ (World.ownsRow_nil _ _ _ _) (fun g d=>by cases d),cj.trans ⟨rfl,rfl,rfl,by simp[World.setCell],fun g bj=>Below.heap_setCell _ _ _ _ (by show g≠t;have:=(bi.lt t rfl).1;omega)⟩⟩;rw[am] at q⊢;rw[Zh] at q;rw[Ph,List.flatMap_singleton];exact q
    obtain⟨d8,f0,bl,_⟩:=D9 N.hro;have fd:Hid (P=.slice d8 k.length f0):=bl;have ah:(c:Int)<(c:Int)+1:=by omega
    clear N bi cj az bl am;go_wp2_with fail;go_loopw [12] (fun ax wr=> ∃(f:Nat)(i:Value),ax=Aa (f:Nat)/\f<=k.length/\Hid (RA wb O cap B T 0 (-1) (Ar t (c+1) x) (G++[⟨(Ad T s).text,kind,Aw,a.length,i,j.next+1,((a++e).map fun b=>b.1).take f⟩]) P k wr vi U {m with here:=(a++e).map fun b=>(b.1,0)}/\Below wb w wr)) (fun ax _=>k.length -(intOf ax).toNat)
    case atStart=>
     obtain⟨i,af⟩:=fj.out;exact⟨0,i,rfl,B6 _,af⟩
    case round=>
     obtain⟨f,i,rfl,hk,bc⟩:=hrel;have u:=bc.out.1;have ai:=u.gro;rw[show(G++[(⟨(Ad T s).text,kind,Aw,a.length,i,j.next+1,((a++e).map fun b=>b.1).take f⟩:GC)]).length=c+1 by rw[bp.out];simp] at ai;have c4:wr.cell? (Ac wb 4)=some (Ar t (c+1) x):=u.cel 4 _ rfl;have c7:wr.cell? (Ac wb 5)=some P:=u.cel 5 _ rfl;by_cases b6:f<k.length
     ·have ho:(f:Int)<((k.length:Nat):Int):=by omega
      have ag:=ce.out;have R:k[f]? =some (k[f]'b6):=Bb b6;obtain⟨aa,gd⟩: ∃aa,((a++e).map fun b=>b.1)[f]? =some aa/\(k[f]'b6).name=aa:=⟨_,dc f _ R,rfl⟩;obtain⟨eu,ev⟩:=gd;obtain⟨z,ar,ca,fz,ed⟩:=Gt u.hro R;have c8:wr.cell? (Ac wb 5)=some (Ar z k.length ar):=c7.trans (C4 some ca);have ch:wr.cell? (Ac z (f*6))=some (.string aa):=by rw[<-ev];exact ed 0 (by omega)
      have bx:(G++[(⟨(Ad T s).text,kind,Aw,a.length,i,j.next+1,((a++e).map fun b=>b.1).take f⟩:GC)])[c]? =some ⟨(Ad T s).text,kind,Aw,a.length,i,j.next+1,((a++e).map fun b=>b.1).take f⟩:=by rw[bp.out];simp
      obtain⟨l,g2,ej,_,az⟩:=Gt u.gro bx;have f2:l=t:=by injection ej with q;cases q;rfl
      subst f2;have fn:wr.cell? (Ac l (c*6+4))=some i:=az 4 (by omega);have fr:=ai.frozenAt (c*6+4);have ei:=(ai.lt l rfl).2;have eo:(((a++e).map fun b=>b.1).take f).length=f:=by rw[It];omega
      obtain⟨bb,e2⟩: ∃bb,bb=(((a++e).map fun b=>b.1).take f).map Value.string:=⟨_,rfl⟩;have cw:wr.ownsRow (wb+1) 9 1 i f bb:=by have af:=u.cvr _ (Ct bx);dsimp only at af;rw[eo,<-e2] at af;exact af
      obtain⟨gr,f6,gj,gl,gm⟩:=info_parts Tryz.infoStr2;have cx:=Sb (vg:=(Ar l (c+1) x)) (vh:=P) (vo:=U) (H:=k) bx;have b7:i.ownBlock≠some l:=KU u.apt (i:=0) (by omega) rfl cx l rfl;have ew:i.ownBlock≠some wb:=fun d=>by have:=(cw.lt wb d).1;omega
      have el:l≠wb:=by have:=(ai.lt l rfl).1;omega
      have f3:l≠z:=fun d=>KU u.apt (i:=0) (j:=1) (by omega) rfl rfl l rfl (by rw[ca,d];rfl);have gc:i.ownBlock≠some z:=KU u.apt (i:=1) (by omega) rfl cx z (by rw[ca];rfl);have e1:=u.lt;have ah:(c:Int)<(c:Int)+1:=by omega
      have dp:Hid (∀B,(wr.alloc B).drew.cell? (Ac l (c*6+4))=some i):=fun B=>by show(wr.alloc B).cell? (Ac l (c*6+4))=some i;rw[(Ee wr B).cell (p:=Ac l (c*6+4)) ei];exact fn
      have fl:Hid (∀B,(wr.alloc B).drew.frozen? (Ac l (c*6+4))=false):=fun B=>by show(wr.alloc B).frozen? (Ac l (c*6+4))=false;rw[(Ee wr B).frozen (p:=Ac l (c*6+4)) ei];exact fr
      have e6:Hid (∀(bq:Obj)(K:World)(v aq:Nat),(wr.alloc bq).drew.grownBy K i.ownBlock->K.ownsRow (wb+1) 9 1 (Ar v (f+1) aq) (f+1) (bb++[.string aa])->(i.ownBlock=some v\/v=wr.heap.size+1)->Hid (RA wb O cap B T 0 (-1) (Ar l (c+1) x) (G++[⟨(Ad T s).text,kind,Aw,a.length,(Ar v (f+1) aq),j.next+1,((a++e).map fun b=>b.1).take (f+1)⟩]) P k (K.setCell ⟨l,c*6+4,none⟩ (Ar v (f+1) aq)) vi U {m with here:=(a++e).map fun b=>(b.1,0)}/\Below wb w (K.setCell ⟨l,c*6+4,none⟩ (Ar v (f+1) aq)))):=fun bq K v aq an gf b2=>by
       have bh:Ay wr (wr.alloc bq).drew:=(Ee wr bq).drew
       have f4:v≠l:=by
        rcases b2 with af|af
        ·exact fun d=>b7 (by rw[af,d])
        ·omega
       have hv:(K.setCell ⟨l,c*6+4,none⟩ (Ar v (f+1) aq)).heap.size=K.heap.size:=by simp[World.setCell]
       have hu:=an.size;have ht:=bh.size;have ct: ∀g,i.ownBlock≠some g->g<wr.heap.size->K.heap[g]? =wr.heap[g]? :=fun g q Z=>(an.block g (by omega) (fun d=>q d.symm)).trans (bh.block g Z);have f5:=(Cq (w':=K) ai fun g d=>ct g (fun Q=>b7 (by rw[show l=g from by injection d];exact Q)) (ai.lt g d).2);have dd:=(f5.stored (c*6+4) (Ar v (f+1) aq)).1;refine⟨u.lastG rfl rfl (by omega) (fun g q Z a1=>by rw[Below.heap_setCell _ _ _ _ (fun d=>q (by rw[d];rfl))];exact ct g Z a1) ?_ ?_ (fun g d=> ?_),bc.out.2.trans ⟨?_,?_,?_,by omega,fun g bj=> ?_⟩⟩
       ·rw[bp.out] at dd⊢;rw[Zh] at dd;rw[Ph,List.flatMap_singleton];exact dd
       ·have A:(((a++e).map fun b=>b.1).take (f+1)).map Value.string=bb++[.string aa]:=by rw[Mp,eu,E6,e2];rfl
        have Q:(((a++e).map fun b=>b.1).take (f+1)).length=f+1:=by rw[It];omega
        dsimp only;rw[A,Q];exact Cq gf fun g d=>Below.heap_setCell _ _ _ _ (by show g≠l;rw[<-show v=g from by injection d];exact f4)
       ·have fp:v=g:=by injection d
        subst fp;exact b2.elim .inl (fun af=>.inr (by omega))
       ·show K.os=_;rw[an.os];exact bh.os
       ·show K.tape=_;rw[an.tape];exact bh.tape
       ·show K.output=_;rw[an.output];exact bh.output
       ·rw[Below.heap_setCell _ _ _ _ (by show g≠l;have:=(ai.lt l rfl).1;omega)];exact ct g (fun d=>by have:=(cw.lt g d).1;omega) (by omega)
      clear u ai ed az bx cx c7 bc eu ev eo R ca ej ag;go_wp2_with fail;have bd:Hid (∀B,(wr.alloc B).drew.cell? (Ac wb 4)=some (Ar l (c+1) x)/\(wr.alloc B).drew.cell? (Ac wb 5)=some (Ar z k.length ar)/\(wr.alloc B).drew.cell? (Ac z (f*6))=some (.string aa)):=fun B=>⟨by show(wr.alloc B).cell? _=_;rw[(Ee wr B).cell (p:=Ac wb 4) e1];exact c4,by show(wr.alloc B).cell? _=_;rw[(Ee wr B).cell (p:=Ac wb 5) e1];exact c8,by show(wr.alloc B).cell? _=_;rw[(Ee wr B).cell (p:=Ac z (f*6)) fz];exact ch⟩;refine wp_region_held_drew (S:=fun I=>I.cell? (Ac wb 4)=some (Ar l (c+1) x)/\I.cell? (Ac wb 5)=some (Ar z k.length ar)/\I.cell? (Ac z (f*6))=some (.string aa)) (by kernel_rfl) ⟨c4,c8,ch⟩ (fun g5=> ?_);show WA 0 _
      iterate 12 (refine NE (v:= ?_) rfl (by kernel_rfl) (fun _ _ _ y=>y) (.inl ⟨by rfl,?_⟩) (by assumption) ?_;(rotate_left;focus(intro w bg;(try dsimp only at bg);go_simp;try with_reducible rfl));(try simp only[Act.put,List.setIfInBounds_toArray]))
      show WA 13 _
      iterate 8 (refine NE (v:= ?_) rfl (by kernel_rfl) (fun _ _ _ y=>y) (.inl ⟨by rfl,?_⟩) (by assumption) ?_;(rotate_left;focus(intro w bg;(try dsimp only at bg);go_simp;try with_reducible rfl));(try simp only[Act.put]))
      refine wpAnyH_ready (rs:=[12,21]) (by kernel_rfl) (by simp) ?_;refine AllReadyH.cons rfl (fun Y C=> ?_) (AllReadyH.cons rfl (fun Y C=> ?_) AllReadyH.nil)
      focus
       go_simp;refine C.out _ _ ⟨c4,c8,ch⟩ (fun _=> ?_);clear C Y;try simp only[Act.put,List.setIfInBounds_toArray,List.set_cons_zero,List.set_cons_succ]
       refine wpAnyH_ready (rs:=[21]) (by kernel_rfl) (by simp) ?_;refine AllReadyH.cons rfl (fun Y C=> ?_) AllReadyH.nil
      rotate_left
      focus
       go_simp;refine C.out _ _ (bd.out _) (fun _=> ?_);clear C Y;try simp only[Act.put,List.setIfInBounds_toArray,List.set_cons_zero,List.set_cons_succ]
       refine wpAnyH_ready (rs:=[12]) (by kernel_rfl) (by simp) ?_;refine AllReadyH.cons rfl (fun Y C=> ?_) AllReadyH.nil;have g8:=dp.out
      all_goals
       go_simp;refine C.out _ _ (bd.out _) (fun _=> ?_);clear C Y;try simp only[Act.put,List.setIfInBounds_toArray,List.set_cons_zero,List.set_cons_succ]
       refine wpAnyH_ready (rs:=[22]) (by kernel_rfl) (by simp) ?_;refine AllReadyH.cons rfl (fun Y C=> ?_) AllReadyH.nil
       refine step_append_lies _ (by rfl) _ _ _ (by rfl) (wb+1) 9 gr _ 1 16 underlying45 f6 gj gl gm rfl (by omega) i f bb (by rfl) ((cw.alloc _).drew)
        (Ac wr.heap.size 0) 1 1 [.string aa] (by rfl) (by rfl) (World.news_of_block (cs:= #[.string aa]) (t:=9) (fr:=(0,0)) (heap_alloc_new wr _)) (by simp[Value.oneCell'])
        (by omega) (by unfold maxLen;omega) (by omega) (by simp;omega) (wr.heap.size+1) (by simp) ?_
       intro fu fo e3 gg a5 b2 hn;have hw:e3.cell? (Ac l (c*6+4))=some i:=(by rw[a5.cell_far _ (by simp;omega) (Ey b7)];exact dp.out _);have g9:e3.frozen? (Ac l (c*6+4))=false:=(by rw[a5.frozen_far _ (by simp;omega) (Ey b7)];exact fl.out _);refine C.out _ _ ⟨(by rw[a5.cell_far _ (by simp;omega) (Ey ew)];exact(bd.out _).1),(by rw[a5.cell_far _ (by simp;omega) (Ey ew)];exact(bd.out _).2.1),(by rw[a5.cell_far _ (by simp;omega) (Ey gc)];exact(bd.out _).2.2)⟩ (fun co=> ?_);clear C Y;try simp only[Act.put,List.setIfInBounds_toArray]
       show WA 23 _
       iterate 2 (refine NE (v:= ?_) rfl (by kernel_rfl) (fun _ _ _ y=>y) (.inl ⟨by rfl,?_⟩) (by assumption) ?_;(rotate_left;focus(intro w bg;(try dsimp only at bg);go_simp;try with_reducible rfl));(try simp only[Act.put]))
       refine wpAnyH_ready (rs:=[25]) (by kernel_rfl) (by simp) ?_;refine AllReadyH.cons rfl (fun Y C=> ?_) AllReadyH.nil;go_simp;refine C.out _ _ ⟨(by rw[Bh _ _ _ _ (by intro d;have ae:=C4 Addr.block d;exact el ae)];exact co.1),(by rw[Bh _ _ _ _ (by intro d;have ae:=C4 Addr.block d;exact el ae)];exact co.2.1),(by rw[Bh _ _ _ _ (by intro d;have ae:=C4 Addr.block d;exact f3 ae)];exact co.2.2)⟩ (fun _=> ?_);refine wpAnyH_done (by kernel_rfl) ?_ _;clear C Y;go_wp2_with fail
       go_roundw
       all_goals first|exact⟨f+1,_,by show _=Value.int .i64 ((f+1:Nat):Int);go_num,b6,e6.out _ _ fu fo a5 gg (by simpa using b2)⟩|(simp[intOf];omega)
     ·have hl: ¬(f:Int)<((k.length:Nat):Int):=by omega
      have f7:f=k.length:=by omega
      rw[fd.out] at c7;have gw:wr.cell? (Ac wb 6)=some (Aa (-1)):=u.cel 6 _ rfl;have ft:=u.frz 6
      have fb:Hid (RA wb O cap B T 0 ((c:Nat):Int) (Ar t (c+1) x) (G++[⟨(Ad T s).text,kind,Aw,a.length,i,j.next+1,((a++e).map fun b=>b.1)⟩]) P k (wr.setCell ⟨wb,6,none⟩ (Aa ((c:Nat):Int))) vi U {m with here:=(a++e).map fun b=>(b.1,0)}/\Below wb w (wr.setCell ⟨wb,6,none⟩ (Aa ((c:Nat):Int)))):=by
       have A:((a++e).map fun b=>b.1).take f=((a++e).map fun b=>b.1):=by rw[f7,ce.out];exact E7
       rw[A] at u;exact⟨u.par (Kr wb 6 _ _) (u.cel.set (o:=6) (by simp[Dy]) _) (fun o=>by rw[Cu];exact u.frz o) rfl rfl rfl rfl u.use,bc.out.2.trans ⟨rfl,rfl,rfl,by simp[World.setCell],fun g bj=>Below.heap_setCell _ _ _ _ (by show g≠wb;omega)⟩⟩
      clear u ai bc;go_wp2_with fail;go_meet;exact⟨i,fb.out⟩
   case rest=>
    obtain⟨i,ay⟩:=hcut;have ag:=ce.out;obtain⟨bv,dv⟩:=ay.out;have hd:D.next<T.length:=c3;have eg:=AD n c3 cy Ai;have he:D.next+1<T.length:=eg
    have db:Bz {p with glob:=p.glob++[⟨(Ad T s).text,kind,a.length⟩],here:=((a++e).map fun b=>b.1).map fun aj=>⟨aj,0,0⟩,inside:=some p.glob.length,fresh:=false} cg=none:=by
     have A:({p with glob:=p.glob++[⟨(Ad T s).text,kind,a.length⟩],here:=((a++e).map fun b=>b.1).map fun aj=>⟨aj,0,0⟩,inside:=some p.glob.length,fresh:=false}:Ao)=({({p.add false ⟨(Ad T s).text,kind,a.length⟩ with here:=(p.add false ⟨(Ad T s).text,kind,a.length⟩).here++a.map Hh}:Ao) with here:=({p.add false ⟨(Ad T s).text,kind,a.length⟩ with here:=(p.add false ⟨(Ad T s).text,kind,a.length⟩).here++a.map Hh}:Ao).here++e.map Hh}:Ao).enter:=by have ae:(p.add false ⟨(Ad T s).text,kind,a.length⟩).here=[]:=cn;have fq:(p.add false ⟨(Ad T s).text,kind,a.length⟩).glob=p.glob++[⟨(Ad T s).text,kind,a.length⟩]:=rfl;simp[Ao.enter,ae,fq];rfl
     rw[A];exact av
    have dx:Fj {p with glob:=p.glob++[⟨(Ad T s).text,kind,a.length⟩],here:=((a++e).map fun b=>b.1).map fun aj=>⟨aj,0,0⟩,inside:=some p.glob.length,fresh:=false} (G++[⟨(Ad T s).text,kind,Aw,a.length,i,j.next+1,((a++e).map fun b=>b.1)⟩]) k:=⟨⟨[],by simp[dw,GC.sy]⟩,fun b R a0=>by
     rcases BD.1 R with R|R
     ·exact gq b R a0
     ·rw[Hk.1 R] at a0;dsimp only at a0;omega,⟨[],by rw[b9];simp;rfl,fun bn cb=>by cases cb⟩,fun bn cb=>by
     simp only[CD] at cb;obtain⟨_,_,rfl⟩:=cb
     rfl⟩
    have ah:=Qc n J (Gp n none 14) (Ev n none 14) ((Xk (gl:=[]) n fy J 30 0 rfl ((c:Nat):Int) (Ar t (c+1) x) _ P k _ False dx (fun y=>y.elim) 14 1 (by omega) (by omega)).2) bv b3 false (A4 cv) (by rw[a4];exact ea) (by rw[a4];exact db) (fun d=>by cases d);rw[a4] at ah;rw[show(((Ab j).next:Nat):Int)=(j.next:Int)+1 by show((j.next+1:Nat):Int)=_;omega] at ah;have gh: ∀cf,Eb B (Ef B [] 30) false cg cf=cf:=fun cf=>by unfold Eb;rfl
    dsimp only at ah;rw[gh] at ah;have e8:Hid (Below wb w wc):=dv;have e7:Hid (RA wb O cap B T 0 ((c:Nat):Int) (Ar t (c+1) x) (G++[⟨(Ad T s).text,kind,Aw,a.length,i,j.next+1,((a++e).map fun b=>b.1)⟩]) P k wc vi U {m with here:=(a++e).map fun b=>(b.1,0)}):=bv
    have di:Hid (∀(r:World)(W X:Value),RA wb O cap B T 0 ((c:Nat):Int) (Ar t (c+1) x) (G++[⟨(Ad T s).text,kind,Aw,a.length,i,j.next+1,((a++e).map fun b=>b.1)⟩]) P k r W X {m with here:=(a++e).map fun b=>(b.1,0)}->RA wb O cap B T 0 (-1) (Ar t (c+1) x) (G++[⟨(Ad T s).text,kind,Aw,a.length,i,j.next+1,((a++e).map fun b=>b.1)⟩]) Aw [] ((r.setCell ⟨wb,5,none⟩ Aw).setCell ⟨wb,6,none⟩ (Aa (-1))) W X m):=fun r W X ak=>by
     have q:=ak.noH (As.refl wb r) rfl;have A:({({m with here:=(a++e).map fun b=>(b.1,(0:Int))}:RS) with here:=[]}:RS)=m:=by cases m;cases cp;rfl
     rw[A] at q;exact q.par (Kr wb 6 _ _) (q.cel.set (o:=6) (by simp[Dy]) (Aa (-1))) (fun o=>by rw[Cu];exact q.frz o) rfl rfl rfl rfl q.use
    have dl:Hid (∀(r:World)(W X:Value)(dq:RS),RA wb O cap B T 0 (-1) (Ar t (c+1) x) (G++[⟨(Ad T s).text,kind,Aw,a.length,i,j.next+1,((a++e).map fun b=>b.1)⟩]) Aw [] r W X dq->Ah 123 #[Al wb,Aa (D.next:Nat),.string By] r (fun d I=>d=.returned (Aa ((D.next:Int)+1))/\I=r)/\Ah 123 #[Al wb,Aa ((D.next:Int)+1),.string AQ] r (fun d I=>d=.returned (Aa ((D.next:Int)+1+1))/\I=r)):=fun r W X dq ak=>⟨GQ ak c3 rfl _ (J _ (by decide)) cy,by
     have:=GQ ak eg (i:=(D.next:Int)+1) (by show _=((D.next+1:Nat):Int);omega) AQ (J _ (by decide)) gn;rw[show((((Ab D).next:Nat):Int)+1)=(D.next:Int)+1+1 by show((D.next+1:Nat):Int)+1=_;omega] at this
     exact this⟩
    have fh:Hid (NY T p kind ⟨((Ad T s).text,(Ad T s).pos),a,e,cg⟩ ⟨(Ad T s).text,kind,Aw,a.length,i,j.next+1,((a++e).map fun b=>b.1)⟩):=⟨rfl,rfl,⟨fun dg ax aj bf d7 z d=>by
     have em:dg<k.length:=by rw[ag];exact(BH.1 d7).1
     have en:ax<k.length:=by rw[ag];exact(BH.1 z).1
     have A:=dc dg _ (Bb em);have Q:=dc ax _ (Bb en);rw[d7] at A;rw[z] at Q
     exact bv.nd.2.1 dg ax _ _ (Bb em) (Bb en) (by rw[<-FH A,<-FH Q];exact d),by rw[<-ag];exact fw⟩,⟨Ab j,rfl,b3,A4 cv,by rw[a4];exact ea,by rw[a4]⟩,db⟩
    have ga:(Ab j).next<=D.next:=by have:=(JQ n (Gp n none 14) (Ab j) b3).2;rw[a4] at this;exact this
    have hs:j.next+1<=D.next:=ga;clear ag bv dv ay N cj b9 db dx av aw bk;unfold SP at ah;go_upto_region 29 with(go_at_call 122;refine ah.mono ?_;rintro d ac⟨rfl,ap⟩);obtain⟨W,X,E,d0⟩:=ap.out;have gv:ac.cell? (Ac wb 5)=some P:=E.cel 5 _ rfl;have gw:ac.cell? (Ac wb 6)=some (Aa ((c:Nat):Int)):=E.cel 6 _ rfl;have fs:=E.frz 5;have ft:=E.frz 6;have ci:=di.out ac W X E;obtain⟨d2,d3⟩:=dl.out _ W X _ ci;have dh:Hid (RA wb O cap B T 0 (-1) (Ar t (c+1) x) (G++[⟨(Ad T s).text,kind,Aw,a.length,i,j.next+1,((a++e).map fun b=>b.1)⟩]) Aw [] ((ac.setCell ⟨wb,5,none⟩ Aw).setCell ⟨wb,6,none⟩ (Aa (-1))) W X m/\Below wb w ((ac.setCell ⟨wb,5,none⟩ Aw).setCell ⟨wb,6,none⟩ (Aa (-1)))):=⟨ci,e8.out.trans ((Kf.low e7.out d0).trans ⟨rfl,rfl,rfl,by simp[World.setCell],fun g bj=>by rw[Below.heap_setCell _ _ _ _ (by show g≠wb;omega),Below.heap_setCell _ _ _ _ (by show g≠wb;omega)]⟩)⟩;obtain⟨d8,g7,bl,_⟩:=D9 E.hro;rw[bl] at gv;simp only[bs] at d2 d3;clear ci E d0 ap ah di dl bl;go_upto_region 32 with(go_at_call 123;refine Aq d2 ?_);go_wp2_with(go_at_call 123;refine Aq d3 ?_);go_ret;refine⟨by show _=Ending.returned (Aa ((D.next+1+1:Nat):Int));simp,(Ar t (c+1) x),W,X,_,?_,fh.out,by show _<=D.next+1+1;omega,dh.out.2⟩;rw[<-fi.out];exact dh.out.1
end
