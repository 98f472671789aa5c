/- The program's look at names: a routine. The program's look a -/
import Derived.Test.YtklobognaldjpaaGreatCLk9
import Derived.Deep.CutRange
set_option maxRecDepth 100000
set_option maxHeartbeats 4000000
namespace Go.Proofs.YtklobognaldjpaaGreat
open Go.Proofs.Tryz
open Go.RowKit
section
variable{O U V nl:Nat}{lm:Option Nat}{w J:World}{c:Nat×Nat}{L:Ds}{E:Ao}{Q:AW}
theorem XJ(h:G4 O U V w c L E)(I:V+1<maxLen)(kind:Nat)(r:Ro){vp R M:Value}{A:List Value}(D:Dt Q w vp r.params)(K:Dt Q w R r.locals)(X:B8 Q w M A)(N:Di Q w A r.body)
 (C: ∀b,Q b->b≠O/\b≠U)(Y:Ms r)(Z:r.params.length+r.locals.length<=601)(q:Af)(bu:q=if kind=3 then r.name.1 else⟨#[]⟩):
 Ah 149 #[Al O,.agg #[.string r.name.1,Aa r.name.2,vp,R,M],Aa ((kind+1:Nat):Int),.string q] w (F7 O U V (DJ E kind r) c w):=by
 have dh:=h.pl.lt;have dc:=h.pl.gl;have dd:=h.pl.gmap.lt;have cr:r.name.1.size<=maxLen:=by have:=Y.name.2;unfold maxLen;omega
 obtain⟨ar,au,rfl⟩:=D.len;obtain⟨ao,ap,rfl⟩:=K.len;obtain⟨ag,ah,rfl⟩:=X.len;have ad: ∀a,Ay w (w.alloc a):=fun a=>AP
 have a0: ∀a,Ah 147 #[Al O,.map (some U),.agg #[.string r.name.1,Aa r.name.2],Ci (kind+1,r.params.length)] (w.alloc a).drew (Pd O U (V+1) 0 none L.res U (Be E false r.name.1 r.name.2 kind r.params.length) c (w.alloc a).drew):=fun a=>
  R7 (h.pl.below (ad a).drew) (by rw[Qo h.res];exact h.rep) h.ins (by omega) cr _ _ _ (fun _=>h.l)
 unfold Ci at a0;have b5:Hid (Dt Q w (.slice ar r.params.length au) r.params):=D;have b3:Hid (Dt Q w (.slice ao r.locals.length ap) r.locals):=K;have b0:Hid (B8 Q w (.slice ag A.length ah) A):=X;have b1:Hid (G4 O U V w c L E):=h;have af:Hid (Ms r):=Y;have bz:Hid (Di Q w A r.body):=N;have c9: ∀a,(w.alloc a).cell? (Ac O 2)=some (.map (some U)):=fun a=>(h.pl.below (ad a)).gl;have b6:Hid (q=if kind=3 then r.name.1 else⟨#[]⟩):=bu;clear D K X h Y N bu;generalize ab:Be E false r.name.1 r.name.2 kind r.params.length=j at*
 have b9:Hid (∀av v aw,PL O U (V+1) 0 none av v aw->4<r.params.length->Ah 148 #[Al O,Aa 7,Aa r.name.2] av.drew fun t J=>t=.returned A6/\PL O U (V+1) 0 none J (AF (Gk r.params.length r.name.2) v) aw/\As O av.drew J):=fun av v aw cd az=>by
  have t:Gk r.params.length r.name.2=some (7,r.name.2):=by unfold Gk;rw[Ag az]
  rw[t];exact Oz (cd.below (Below.refl _ _).drew) 7 r.name.2
 have ca:Hid (¬4<r.params.length->Gk r.params.length r.name.2=none):=fun az=>by unfold Gk;rw[Ae az]
 generalize c8:((kind+1:Nat):Int)=c6 at*;go_enter func149,ntmps149;go_upto_region 1 with fail
 go_cut [] from 12 to 24 (fun s=> ∃l a,a=.cells #[.string r.name.1,Aa r.name.2,.slice ar r.params.length au,.slice ao r.locals.length ap,.slice ag A.length ah] 218/\PL O U (V+1) 0 none s (AF j.2 c) l/\((AF j.2 c).1=0->C8 (Hc l) j.1)/\l.res=L.res/\l.l=(fun _=>(0,0))/\Fr (fun b=>b=O\/b=U) (w.alloc a) s)
 case first=>
  go_region_with (go_at_call 147;refine(a0 _).mono ?_;rintro t dn⟨rfl,l,z,am,bv,al,bq⟩)
  all_goals(go_wp2_with fail;go_meet;exact⟨l,_,rfl,z,am,bv,bq trivial,(Fr.of_below (Below.refl _ _).drew).trans al⟩)
 case rest=>
  obtain⟨l,a,N,z,am,bv,bq,al⟩:=hcut;generalize bm:AF j.2 c=v at*;have de:=z.lt;have bx: ∀o,(w.alloc a).cell? (Ac w.heap.size o)= #[Value.string r.name.1,Aa r.name.2,.slice ar r.params.length au,.slice ao r.locals.length ap,.slice ag A.length ah][o]? :=fun o=>by rw[N];exact Cl w _ _ o
  have ae: ∀{s:World},Fr (fun b=>b=O\/b=U\/(w.alloc a).heap.size<=b) (w.alloc a) s-> ∀o,s.cell? (Ac w.heap.size o)= #[Value.string r.name.1,Aa r.name.2,.slice ar r.params.length au,.slice ao r.locals.length ap,.slice ag A.length ah][o]? :=fun{s} hF o=>by rw[hF.cell (by simp) (by simp;omega),bx]
  have W:Fr (fun b=>b=O\/b=U\/(w.alloc a).heap.size<=b) (w.alloc a) wc:=al.weak (fun bf _ F=>F.elim .inl (fun h=>.inr (.inl h)));have q1:=ae W 1;have cw:=ae W 2;clear N a0;go_upto_if 28 with fail
  go_cut [] from 25 to 35 (fun s=>PL O U (V+1) 0 none s (AF (Gk r.params.length r.name.2) v) l/\Fr (fun b=>b=O\/b=U\/(w.alloc a).heap.size<=b) (w.alloc a) s)
  case first=>
   by_cases bw:4<r.params.length
   ·have cv:decide ((4:Int)<(r.params.length:Int))=true:=by simp;omega
    have ch:=b9.out wc v l z bw;go_wp2_with fail;go_region_with (go_at_call 148;refine ch.mono ?_;rintro t dp⟨rfl,p,cn⟩)
    all_goals(go_wp2_with fail;go_meet;exact⟨p,(W.trans (Fr.of_below (Below.refl _ _).drew)).trans (Fr.of_par cn (.inl rfl))⟩)
   ·have cv:decide ((4:Int)<(r.params.length:Int))=false:=by simp;omega
    go_wp2_with fail;go_meet;exact⟨by rw[ca.out bw,Gu];exact z,W⟩
  case rest=>
   obtain⟨p,aa⟩:=hcut;generalize a5:AF (Gk r.params.length r.name.2) v=H at*;have br:=p.lt;have cp:=p.lo;have cs:=p.rs;have cl:=p.frz 3;have cm:=p.frz 4;have cx:=ae aa 2;have dk:w.heap.size<wc.heap.size:=CF (by simp) aa.size;have a2:=p.enter q;have cq:=fun cb=>run_makeMap (P:=prog) 201 cb;clear W q1 cw bx al z;go_wp2;rw[World.setCell_alloc_past _ _ _ _ br,World.setCell_alloc_past _ _ _ _ (by simpa using br)] at a2;have bl:Fr (fun b=>b=O\/b=U\/(w.alloc a).heap.size<=b) (w.alloc a) (((wc.setCell (Ac O 3) (.map (some wc.heap.size))).setCell (Ac O 4) (.string q)).alloc (.map #[] 0)):=aa.trans (Fr.of_par ((((As.refl O wc).setCell 3 _).setCell 4 _).alloc _) (.inl rfl));have di:(w.alloc a).heap.size<=wc.heap.size:=aa.size;have bt:H.1=0->C8 (Hc ⟨l.g,fun _=>(0,0),q⟩) j.1:=fun m=>by rw[<-a5] at m;exact AgO (am (KC (OE _ _) m).1) (by rw[<-ab];exact(RZ _ _ _ _ _).trans b1.out.here)
   have bg:Hid (H.1=0->C8 (Hc ⟨l.g,fun _=>(0,0),q⟩) j.1):=bt;clear bt am aa p cx cp cs cl cm cq;generalize dj:wc.heap.size=aq at*;go_loopw [9,47] (fun _ x wr=> ∃(d:Nat)(g:Ds),x=Aa d/\d<=r.params.length/\PL O U (V+1) d (some aq) wr (AF (AX j.1 (r.params.take d)).2 H) g/\Hid ((AF (AX j.1 (r.params.take d)).2 H).1=0->C8 (Hc g) (AX j.1 (r.params.take d)).1)/\g.res=q/\Fr (fun b=>b=O\/b=U\/(w.alloc a).heap.size<=b) (w.alloc a) wr) (fun _ x _=>r.params.length -(intOf x).toNat)
   case atStart=>exact⟨0,_,rfl,B6 _,by rw[Eo,AX,Gu];exact a2,by rw[Eo,AX,Gu];exact bg,rfl,bl⟩
   case round=>
    obtain⟨d,g,rfl,bp,e,k,G,f⟩:=hrel;by_cases u:d<r.params.length
    ·obtain⟨b,cap,a9,a6,a4,bd,be⟩:=b5.out.at u;injection a9 with ba bb bc;subst ba bc;clear bb;have ac: ∀o,wr.cell? (Ac b o)=w.cell? (Ac b o):=fun o=>by rw[f.cell (by simp;omega) (by have:=C b a6;simp;omega),EW _ _ _ a4]
     rw[<-ac] at bd be;have cj: ∀i,(wr.alloc i).cell? (Ac O 3)=some (.map (some aq)):=fun i=>(e.below ((Below.refl _ _).alloc (AA _) i)).lo;have an:=e.lt;have T:=fun i=>Yc e k.out (by unfold maxLen;omega) (Bb u) (by have:=(af.out.params _ (D4 u)).2;unfold maxLen;omega) (W:=(wr.alloc i).drew) ((Below.refl _ _).alloc (AA _) i).drew;unfold Ci at T;have cu:(w.alloc a).heap.size<=wr.heap.size:=f.size;clear k e ac;generalize r.params[d]=c5 at*;go_wp2;go_region_with (go_at_call 147;refine(T _).mono ?_;rintro t c3⟨rfl,ax,a3,a7,a8,a1⟩)
     all_goals go_wp2_with fail
     all_goals go_roundw
     all_goals first|exact⟨d+1,ax,by go_num,by omega,a3,a7,a8.trans G,(f.trans (Fr.of_below AP.drew)).trans (a1.weak fun bf _ F=>F.elim .inl fun h=>.inr (.inr (by omega)))⟩|(simp[intOf];omega)
    ·have S:d=r.params.length:=by omega
     rw[S,E7] at e k;subst S;have cf:AX j.1 r.params=AX j.1 r.params:=rfl;generalize aj:AX j.1 r.params=P at*;clear cf;generalize bn:AF P.2 H=ay at*;have cy:=ae f 3;have an:=e.lt;clear bg bl a2 bp u;go_wp2;go_loopw [11,63] (fun _ x wr=> ∃(d:Nat)(g:Ds),x=Aa d/\d<=r.locals.length/\PL O U (V+1) (r.params.length+d) (some aq) wr (AF (AX P.1 (r.locals.take d)).2 ay) g/\Hid ((AF (AX P.1 (r.locals.take d)).2 ay).1=0->C8 (Hc g) (AX P.1 (r.locals.take d)).1)/\g.res=q/\Fr (fun b=>b=O\/b=U\/(w.alloc a).heap.size<=b) (w.alloc a) wr) (fun _ x _=>r.locals.length -(intOf x).toNat)
     case atStart=>exact⟨0,g,rfl,B6 _,by rw[Eo,AX,Gu];exact e,by rw[Eo,AX,Gu];exact k,G,f⟩
     case round=>
      clear e k G f cy an;obtain⟨d,g,rfl,bp,e,k,G,f⟩:=hrel;by_cases u:d<r.locals.length
      ·obtain⟨b,cap,a9,a6,a4,bd,be⟩:=b3.out.at u;injection a9 with ba bb bc;subst ba bc;clear bb;have ac: ∀o,wr.cell? (Ac b o)=w.cell? (Ac b o):=fun o=>by rw[f.cell (by simp;omega) (by have:=C b a6;simp;omega),EW _ _ _ a4]
       rw[<-ac] at bd be;have cj: ∀i,(wr.alloc i).cell? (Ac O 3)=some (.map (some aq)):=fun i=>(e.below ((Below.refl _ _).alloc (AA _) i)).lo;have an:=e.lt;have T:=fun i=>Yc e k.out (by unfold maxLen;omega) (Bb u) (by have:=(af.out.locals _ (D4 u)).2;unfold maxLen;omega) (W:=(wr.alloc i).drew) ((Below.refl _ _).alloc (AA _) i).drew;unfold Ci at T;have cu:(w.alloc a).heap.size<=wr.heap.size:=f.size;clear k e ac;generalize r.locals[d]=c5 at*;go_wp2;go_region_with (go_at_call 147;refine(T _).mono ?_;rintro t c3⟨rfl,ax,a3,a7,a8,a1⟩)
       all_goals go_wp2_with fail
       all_goals go_roundw
       all_goals first|exact⟨d+1,ax,by go_num,by omega,a3,a7,a8.trans G,(f.trans (Fr.of_below AP.drew)).trans (a1.weak fun bf _ F=>F.elim .inl fun h=>.inr (.inr (by omega)))⟩|(simp[intOf];omega)
      ·have S:d=r.locals.length:=by omega
       rw[S,E7] at e k;subst S;generalize ak:AX P.1 r.locals=y at*;generalize bo:AF y.2 ay=ai at*;have dm:=ae f 4;have an:=e.lt;have bh:BR Q w wr:=⟨AT (ad a).size f.size,fun b X K=>(f.block b (by simp;omega) (by have:=C b X;simp;omega)).trans ((ad a).block b K)⟩;have b7:Hid (ai.1=0->C8 g y.1.enter):=fun m=>by have ce:=k.out m;rw[<-bo,<-ak] at m;have c2:=KC (IQ _ _) m;have bk:=c2.1;rw[<-bn,<-aj] at bk;have c1:=KC (IQ _ _) bk;have bj:=c1.1;rw[<-a5] at bj;have c0:=KC (OE _ _) bj;have bi:=c0.1;rw[<-bm,<-ab] at bi;have cz:=KC (Ji _ _ _ _ _ _) bi;have cc:=AbM cz.2;refine AgM ce G (l:=E.glob) (y:=⟨r.name.1,kind,r.params.length⟩) ?_ b6.out;rw[<-ak,Tj,<-aj,Tj,<-ab];exact cc
       have cg:=Xw (E:=y.1.enter) r.body Q wr _ A ai e b7.out (b0.out.keep bh) (bz.out.keep bh) (fun b X=>(C b X).1) af.out.body.1 af.out.body.2;have b2:Hid (AF (DJ E kind r).2 c=AF (Bz y.1.enter r.body) ai):=by show _=_;rw[Aeq,ab,aj,ak,bm,a5,bn,bo]
       have b4:Hid ((DJ E kind r).1=y.1.leave):=by show(AX (AX (Be E false r.name.1 r.name.2 kind r.params.length).1 r.params).1 r.locals).1.leave=_;rw[ab,aj,ak]
       have b8:=k;generalize ci:AF (Bz y.1.enter r.body) ai=c7 at*;clear k;go_wp2_with(go_at_call 121;refine cg.mono ?_;rintro t c4⟨rfl,B,co⟩;have dg:=B.lo;have dl:=B.rs;have da:=B.frz 3;have db:=B.frz 4;have df:=B.lt);go_end0;refine⟨rfl,⟨⟨g.g,fun _=>(0,0),⟨#[]⟩⟩,?_⟩,?_⟩
       ·rw[b2.out,b4.out];refine⟨B.leave,fun m=>AgN (L2:=g) fun n=> ?_,rfl,rfl,rfl,rfl⟩;rw[<-ci] at m;exact(b8.out (KC (Jj _ _) m).1).g n
       ·have ck:=(f.trans (Fr.of_par co (.inl rfl))).trans (Fr.of_par (((As.refl O c4).setCell 3 (.map none)).setCell 4 (.string ⟨#[]⟩)) (.inl rfl));exact((Fr.of_below (ad a)).trans ck).weak fun bf F ct=>ct.elim .inl fun h=>h.elim .inr fun h=>by simp at h;omega
theorem VI{r:Ao×Option (Nat×Nat)}{a:World}{b:Ending}(h:Pd O U (V+1) 0 none ⟨#[]⟩ U r c a b J)(g:r.1.inside=none)(i:r.1.here=[])(k:Ay w a):F7 O U V r c w b J:=by obtain⟨rfl,e,j,l,d,hF,K⟩:=h;refine⟨rfl,⟨e,j,fun f=> ?_,d,K rfl,g,i⟩,(Fr.of_below k).trans hF⟩;have:=l f;rw[Qo d] at this;exact this
section
variable(h:G4 O U V w c L E)(I:V+1<maxLen)(n:Af)
include h I n
theorem Aei(p:Nat)(Y:DH n):
 Ah 120 #[Al O,.iface 212 (.agg #[.string n,Aa p])] w (F7 O U V (Ce E (.var n p)) c w):=by
 have m:=h.pl.lt;have j:n.size<=maxLen:=by have:=Y.2;unfold maxLen;omega
 have b: ∀a,Ay w (w.alloc a):=fun a=>AP;have d: ∀a,Ah 147 #[Al O,.map (some U),.agg #[.string n,Aa p],Ci (1,0)] (w.alloc a).drew (F7 O U V (Ce E (.var n p)) c w):=fun a=>by refine(R7 (h.pl.below (b a).drew) (by rw[Qo h.res];exact h.rep) h.ins (by omega) j p 0 0 (fun _=>h.l)).mono ?_;intro f J e;rw[h.res] at e;exact VI e ((Vz _ _ _ _ _ _).trans h.ins) ((RZ _ _ _ _ _).trans h.here) (b a).drew
 unfold Ci at d;have l: ∀a,(w.alloc a).cell? (Ac O 2)=some (.map (some U)):=fun a=>(h.pl.below (b a)).gl;clear h;generalize Ce E (.var n p)=k at*;go_enter func120,ntmps120;go_wp2;go_region_with (go_at_call 147;refine(d _).mono ?_;rintro f o⟨rfl,i,g⟩)
 all_goals go_wp2
 all_goals go_end0
 all_goals exact⟨rfl,i,g⟩
theorem Aef(p size at_:Nat)(Y:DH n):
 Ah 120 #[Al O,.iface 215 (.agg #[.string n,Aa p,Aa size,Aa at_])] w (F7 O U V (Ce E (.arr n p size at_)) c w):=by
 have X:=h.pl.lt;have T:=h.pl.gmap.lt;have P:n.size<=maxLen:=by have:=Y.2;unfold maxLen;omega
 have v: ∀a,Ay w (w.alloc a):=fun a=>AP;have u: ∀a,Ah 147 #[Al O,.map (some U),.agg #[.string n,Aa p],Ci (2,0)] (w.alloc a).drew (F7 O U V (Be E false n p 1 0) c (w.alloc a)):=fun a=>by refine(R7 (h.pl.below (v a).drew) (by rw[Qo h.res];exact h.rep) h.ins (by omega) P p 1 0 (fun _=>h.l)).mono ?_;intro t J D;rw[h.res] at D;exact VI D ((Vz _ _ _ _ _ _).trans h.ins) ((RZ _ _ _ _ _).trans h.here) (Below.refl _ _).drew
 unfold Ci at u;have S: ∀a,(w.alloc a).cell? (Ac O 2)=some (.map (some U)):=fun a=>(h.pl.below (v a)).gl;have f:Hid (Ce E (.arr n p size at_)=((Be E false n p 1 0).1,(Be E false n p 1 0).2.or (F1 size at_))):=rfl;have I:Hid (Nz (Be E false n p 1 0).2):=Ji _ _ _ _ _ _;clear h;generalize Be E false n p 1 0=d at*;go_enter func120,ntmps120;go_upto_region 6 with fail
 go_cut [] from 24 to 32 (fun H=> ∃a,a=.cells #[.string n,Aa p,Aa size,Aa at_] 215/\(∃K,G4 O U (V+1) H (AF d.2 c) K d.1)/\Fr (fun b=>b=O\/b=U) (w.alloc a) H)
 case first=>
  go_region_with (go_at_call 147;refine(u _).mono ?_;rintro t ac⟨rfl,j,q⟩)
  all_goals(go_wp2_with fail;go_meet;exact⟨_,rfl,j,q⟩)
 case rest=>
  obtain⟨a,N,⟨l,j⟩,q⟩:=hcut;have G: ∀o,wc.cell? (Ac w.heap.size o)= #[Value.string n,Aa p,Aa size,Aa at_][o]? :=fun o=>by rw[q.cell (by simp) (by simp;omega),N];exact Cl w _ _ o
  have aa:=G 2;have ab:=G 3;have z:=j.pl;have W:=z.lt;have A:=Oz (z.below (Below.refl _ _).drew) 3 at_;have y:Fr (fun b=>b=O\/b=U) w wc:=(Fr.of_below (v a)).trans q;have g:Hid (G4 O U (V+1) wc (AF d.2 c) l d.1):=j;clear N u j;generalize C:AF d.2 c=m at*;by_cases F:size<1\/20<size
  ·have s:Hid (F1 size at_=some (3,at_)):=by show _=_;unfold F1;rw[Ag F]
   have r:Hid (AF (Ce E (.arr n p size at_)).2 c=AF (some (3,at_)) m):=by show _=_;rw[f.out,<-C,<-s.out,FT _ _ I.out]
   have x:Hid (∀e,PL O U (V+1) 0 none e (AF (some (3,at_)) m) l->As O wc.drew e->F7 O U V (Ce E (.arr n p size at_)) c w (.returned A6) e):=fun e i k=>by refine⟨rfl,⟨l,?_⟩,(y.trans (Fr.of_below (Below.refl _ _).drew)).trans (Fr.of_par k (.inl rfl))⟩;rw[r.out];exact⟨i,fun L=>(by have:=(KC (f:=some (3,at_)) (fun ad Q=>by cases Q;simp) L).2;cases this),g.out.res,g.out.l,by rw[f.out];exact g.out.ins,by rw[f.out];exact g.out.here⟩
   generalize AF (some (3,at_)) m=R at*;by_cases Z:size<1
   ·have B:decide ((size:Int)<1)=true:=by simp;omega
    go_wp2;go_region_with (go_at_call 148;refine A.mono ?_;rintro t e⟨rfl,i,k⟩)
    all_goals go_wp2
    all_goals go_end0
    all_goals exact x.out _ i k
   ·have B:decide ((size:Int)<1)=false:=by simp;omega
    have M:decide ((20:Int)<(size:Int))=true:=by simp;omega
    go_wp2;go_region_with (go_at_call 148;refine A.mono ?_;rintro t e⟨rfl,i,k⟩)
    all_goals go_wp2
    all_goals go_end0
    all_goals exact x.out _ i k
  ·have s:Hid (F1 size at_=none):=by show _=_;unfold F1;rw[Ae F]
   have B:decide ((size:Int)<1)=false:=by simp;omega
   have M:decide ((20:Int)<(size:Int))=false:=by simp;omega
   have r:Hid (AF (Ce E (.arr n p size at_)).2 c=m):=by show _=_;rw[f.out,<-C];show AF (d.2.or (F1 size at_)) c=_;rw[s.out];cases d.2<;>rfl
   go_wp2;go_end0;refine⟨rfl,⟨l,?_⟩,y⟩;rw[r.out,f.out];exact g.out
end
theorem G4.below(h:G4 O U V w c L E)(X:Ay w J):G4 O U V J c L E:=⟨h.pl.below X,h.rep,h.res,h.l,h.ins,h.here⟩
theorem Hs(X:Ay w J):BR Q w J:=⟨X.size,fun b _ K=>X.block b K⟩
theorem F7.from{r:Ao×Option (Nat×Nat)}{a:World}{b:Ending}(h:F7 O U V r c a b J)(X:Ay w a):F7 O U V r c w b J:=⟨h.1,h.2.1,(Fr.of_below X).trans h.2.2⟩
section
variable(h:G4 O U V w c L E)(I:V+1<maxLen)(r:Ro){vp R M:Value}{A:List Value}(D:Dt Q w vp r.params)(K:Dt Q w R r.locals)(X:B8 Q w M A)(N:Di Q w A r.body)(C: ∀b,Q b->b≠O/\b≠U)(Y:Ms r)(Z:r.params.length+r.locals.length<=601)
include h I r D K X N C Y Z
theorem Aeh:
 Ah 120 #[Al O,.iface 220 (.agg #[.string r.name.1,Aa r.name.2,vp,R,M])] w (F7 O U V (Ce E (.proc r)) c w):=by
 have m:=h.pl.lt;have b: ∀a,Ay w (w.alloc a):=fun a=>AP
 have e: ∀a,Ah 149 #[Al O,.agg #[.string r.name.1,Aa r.name.2,vp,R,M],Aa 3,.string ⟨#[]⟩] (w.alloc a) (F7 O U V (Ce E (.proc r)) c w):=fun a=>
  (XJ (h.below (b a)) I 2 r (D.keep (Hs (b a))) (K.keep (Hs (b a))) (X.keep (Hs (b a))) (N.keep (Hs (b a))) C Y Z ⟨#[]⟩ (by simp)).mono fun d J i=>F7.from i (b a)
 obtain⟨p,q,rfl⟩:=D.len;obtain⟨n,o,rfl⟩:=K.len;obtain⟨j,k,rfl⟩:=X.len;clear D K X N Z Y h;generalize Ce E (.proc r)=l at*;go_enter func120,ntmps120;go_wp2_with(go_at_call 149;refine(e _).mono ?_;rintro d s⟨rfl,g,f⟩);go_end0;exact⟨rfl,g,f⟩
theorem Aeg:
 Ah 120 #[Al O,.iface 222 (.agg #[.string r.name.1,Aa r.name.2,vp,R,M])] w (F7 O U V (Ce E (.func r)) c w):=by
 have m:=h.pl.lt;have b: ∀a,Ay w (w.alloc a):=fun a=>AP
 have e: ∀a,Ah 149 #[Al O,.agg #[.string r.name.1,Aa r.name.2,vp,R,M],Aa 4,.string r.name.1] (w.alloc a) (F7 O U V (Ce E (.func r)) c w):=fun a=>
  (XJ (h.below (b a)) I 3 r (D.keep (Hs (b a))) (K.keep (Hs (b a))) (X.keep (Hs (b a))) (N.keep (Hs (b a))) C Y Z r.name.1 (by simp)).mono fun d J i=>F7.from i (b a)
 obtain⟨p,q,rfl⟩:=D.len;obtain⟨n,o,rfl⟩:=K.len;obtain⟨j,k,rfl⟩:=X.len;clear D K X N Z Y h;generalize Ce E (.func r)=l at*;go_enter func120,ntmps120;go_wp2_with(go_at_call 149;refine(e _).mono ?_;rintro d s⟨rfl,g,f⟩);go_end0;exact⟨rfl,g,f⟩
end
theorem Aee(h:G4 O U V w c L E)(I:V+1<maxLen){i:List Az}(j:i.length<=601){a:Gl}{k:Value}(m:Fu Q w k a)(C: ∀b,Q b->b≠O/\b≠U)(Y:KK i a):
 Ah 120 #[Al O,k] w (F7 O U V (Ce E a) c w):=by
 cases m with
 |var n p=>exact Aei h I n p Y.1
 |arr n p s l=>exact Aef h I n p s l Y.1
 |proc r d e f g=>exact Aeh h I r d e f g C Y.1 (AT Y.2 j)
 |func r d e f g=>exact Aeg h I r d e f g C Y.1 (AT Y.2 j)
theorem XB: ∀(b:List Gl)(E:Ao)(a:Nat)(c:Gl),b[a]? =some c->
 AO E (b.take (a+1))=((Ce (AO E (b.take a)).1 c).1,(AO E (b.take a)).2.or (Ce (AO E (b.take a)).1 c).2)
 |[],E,a,c,h=>by simp at h
 |d::b,E,0,c,h=>by simp at h;subst h;rw[EN,Eo,Eo,AO,AO,AO];cases(Ce E d).2<;>rfl
 |d::b,E,a+1,c,h=>by rw[EN,EN,AO,AO,XB b _ a c (by simpa using h)];cases(Ce E d).2<;>rfl
end
def Bv:Ao:=⟨[],[],none,false⟩
def B1(c:List UInt8):Nat×Nat:=
 if 600<c.length then(1,0)
 else match DD c with
  |.error b=>b
  |.ok a=>
   if(Bd a ⟨0,0,0⟩).2.code=0 then(match D7 Bv (Bd a ⟨0,0,0⟩).1 with|none=>(0,0)|some b=>b)
   else((Bd a ⟨0,0,0⟩).2.code,(Bd a ⟨0,0,0⟩).2.at_)
theorem Na(a:List UInt8): ∀(k b:Nat)(f:List Az),a.length -b<=k->FB a b=.ok f->f.length<=a.length -b+1/\AR f
 |0,b,f,n,h=>by rw[Jd (by omega)] at h;cases h;exact⟨by simp,⟨by simp,fun l d=>by simp at d;subst d;exact⟨rfl,by show(bs []).toList=[];rw[I7]⟩⟩⟩
 |k+1,b,f,n,h=>by
  by_cases g:b<a.length
  ·cases j:Cw (a.drop b) with
   |error c=>rw[MZ g j] at h;cases h
   |ok e=>
    rw[Nb g j] at h;have D:=JN (k:=e.1) (n:=e.2.1) (v:=e.2.2) j;have p:=KV a (b+e.2.1);cases i:FB a (B3 a (b+e.2.1)) with
    |error o=>rw[i] at h;cases h
    |ok r=>
     rw[i] at h;cases h;obtain⟨s,m⟩:=Na a k (B3 a (b+e.2.1)) r (by omega) i;have q:=m.pos;refine⟨by simp;omega,⟨by simp,fun l d=> ?_⟩⟩;refine m.last l ?_;rw[Bg,show r.length+1 -1=(r.length -1)+1 from by omega,J4] at d;exact d
  ·rw[Jd g] at h;cases h;exact⟨by simp,⟨by simp,fun l d=>by simp at d;subst d;exact⟨rfl,by show(bs []).toList=[];rw[I7]⟩⟩⟩
theorem Ad4{a:List UInt8}{c:Nat}(h:Cw a=.error c):c≠0:=by
 unfold Cw at h;split at h
 ·cases h;decide
 ·split at h
  ·cases h
  ·split at h
   ·split at h
    ·cases h;decide
    ·cases h
   ·split at h
    ·cases h
    ·split at h
     ·cases h
     ·cases h;decide
theorem Tf(a:List UInt8): ∀(j b:Nat)(f:Nat×Nat),a.length -b<=j->FB a b=.error f->f.1≠0
 |0,b,f,k,h=>by rw[Jd (by omega)] at h;cases h
 |j+1,b,f,k,h=>by
  by_cases g:b<a.length
  ·cases e:Cw (a.drop b) with
   |error c=>rw[MZ g e] at h;cases h;exact Ad4 e
   |ok d=>
    rw[Nb g e] at h;have D:=JN (k:=d.1) (n:=d.2.1) (v:=d.2.2) e;have m:=KV a (b+d.2.1);cases i:FB a (B3 a (b+d.2.1)) with
    |error l=>rw[i] at h;cases h;exact Tf a j _ _ (by omega) i
    |ok r=>rw[i] at h;cases h
  ·rw[Jd g] at h;cases h
theorem Xl{a:List UInt8}{c b:Nat}(h:DD a=.error (c,b)):c≠0:=Tf a _ _ (c,b) (AA _) h
section
variable{w J:World}{Q:AW}
theorem AiW(w:World)(c a:Array Value)(d:TypeId)(g:TypeId)(e:a= #[Aa 0,Aa 0,.map (some (w.heap.size+1)),.map none,.string ⟨#[]⟩]):
 G4 (w.heap.size+2) (w.heap.size+1) 0 (((w.alloc (.cells c d)).alloc (.map #[] 0)).alloc (.cells a g)) (0,0) ⟨fun _=>(0,0),fun _=>(0,0),⟨#[]⟩⟩ Bv:=by
 have j:(w.alloc (.cells c d)).heap.size=w.heap.size+1:=by simp
 have h:((w.alloc (.cells c d)).alloc (.map #[] 0)).heap.size=w.heap.size+2:=by simp
 have f: ∀o,(((w.alloc (.cells c d)).alloc (.map #[] 0)).alloc (.cells a g)).cell? (Ac (w.heap.size+2) o)=a[o]? :=fun o=>by rw[<-h];exact Cl _ a g o
 have k:Dh (((w.alloc (.cells c d)).alloc (.map #[] 0)).alloc (.cells a g)) (w.heap.size+1) 0 (fun _=>(0,0)):=by have i:=Tr (w.alloc (.cells c d));rw[j] at i;exact i.block (Below.heap_alloc _ _ _ (by rw[h];omega))
 refine⟨⟨?_,?_,?_,?_,?_,?_,k,fun b X=>(by cases X),fun _ _=>rfl,by omega,fun b X=>(by cases X)⟩,fun _=>⟨fun n=>rfl,fun n=>rfl,rfl,fun m l=>(by cases l)⟩,rfl,rfl,rfl,rfl⟩
 ·rw[f,e];rfl
 ·rw[f,e];rfl
 ·rw[f,e];rfl
 ·rw[f,e];rfl
 ·rw[f,e];rfl
 ·intro o;rw[<-h];exact Gc _ a g o
def Rw(p:Pr)(w:World)(a:Ending)(J:World):Prop:=
 a=.returned (.tuple #[Aa (AF (D7 Bv p) (0,0)).1,Aa (AF (D7 Bv p) (0,0)).2])/\Ay w J
theorem Aer{q:List Az}(ak:q.length<=601){p:Pr}{W M:Value}{d bs:List Value}(u:B8 Q w W d)(r:CY Q w d p.globals)(X:B8 Q w M bs)(D:Di Q w bs p.body)(Y:Pm q p):
 Ah 87 #[.agg #[W,M]] w (Rw p w):=by
 have P:=u.weak (Q':=fun b=>b<w.heap.size) (fun b _ h=>h);have F:=r.weak (Q':=fun b=>b<w.heap.size) (fun b _ h=>h);have H:=X.weak (Q':=fun b=>b<w.heap.size) (fun b _ h=>h);have E:=D.weak (Q':=fun b=>b<w.heap.size) (fun b _ h=>h);obtain⟨e,gc,rfl⟩:=u.len;obtain⟨f,g,rfl⟩:=X.len;have v:=r.1;have z:Hid (B8 (fun b=>b<w.heap.size) w (.slice e d.length gc) d):=P;have ad:Hid (CY (fun b=>b<w.heap.size) w d p.globals):=F;have ab:Hid (B8 (fun b=>b<w.heap.size) w (.slice f bs.length g) bs):=H;have aa:Hid (Di (fun b=>b<w.heap.size) w bs p.body):=E;have m:Hid (Pm q p):=Y;have Z:=Y.len;have ap:=fun af=>run_makeMap (P:=prog) 201 af;clear u r X D P F H E Y;rw[v];rw[v] at z;go_enter func87,ntmps87;go_wp2;have t:=AiW w #[.slice e p.globals.length gc,.slice f bs.length g] #[Aa 0,Aa 0,.map (some (w.heap.size+1)),.map none,.string ⟨#[]⟩] 117 203 rfl;have c:Ay w (((w.alloc (.cells #[.slice e p.globals.length gc,.slice f bs.length g] 117)).alloc (.map #[] 0)).alloc (.cells #[Aa 0,Aa 0,.map (some (w.heap.size+1)),.map none,.string ⟨#[]⟩] 203)):=(AP.alloc (by simp) _).alloc (by simp;omega) _;have aq: ∀o,(((w.alloc (.cells #[.slice e p.globals.length gc,.slice f bs.length g] 117)).alloc (.map #[] 0)).alloc (.cells #[Aa 0,Aa 0,.map (some (w.heap.size+1)),.map none,.string ⟨#[]⟩] 203)).cell? (Ac w.heap.size o)= #[Value.slice e p.globals.length gc,.slice f bs.length g][o]? :=fun o=>by rw[EW _ _ _ (by simp;omega),EW _ _ _ (by simp)];exact Cl w _ _ o
 have au:w.heap.size<(((w.alloc (.cells #[.slice e p.globals.length gc,.slice f bs.length g] 117)).alloc (.map #[] 0)).alloc (.cells #[Aa 0,Aa 0,.map (some (w.heap.size+1)),.map none,.string ⟨#[]⟩] 203)).heap.size:=by simp;omega
 rw[show w.heap.size+2=w.heap.size+1+1 from rfl] at t;generalize(((w.alloc (.cells #[.slice e p.globals.length gc,.slice f bs.length g] 117)).alloc (.map #[] 0)).alloc (.cells #[Aa 0,Aa 0,.map (some (w.heap.size+1)),.map none,.string ⟨#[]⟩] 203))=y at*;have a8:w.heap.size<w.heap.size+1+1:=by omega
 have a5:w.heap.size<w.heap.size+1:=by omega
 generalize w.heap.size+1+1=O at*;generalize w.heap.size+1=U at*;have n: ∀{wr:World},Fr (fun b=>b=O\/b=U) y wr->BR (fun b=>b<w.heap.size) w wr:=fun{wr} hF=>⟨AT c.size hF.size,fun b X K=>(hF.block b (CF K c.size) (by simp;omega)).trans (c.block b K)⟩;have ar: ∀{wr:World},Fr (fun b=>b=O\/b=U) y wr-> ∀o,wr.cell? (Ac w.heap.size o)= #[Value.slice e p.globals.length gc,.slice f bs.length g][o]? :=fun{wr} hF o=>by rw[hF.cell au (by simp;omega)];exact aq o
 clear ap;go_loopw [6,13] (fun _ x wr=> ∃(a:Nat)(j:Ds),x=Aa a/\a<=p.globals.length/\G4 O U a wr (AF (AO Bv (p.globals.take a)).2 (0,0)) j (AO Bv (p.globals.take a)).1/\Fr (fun b=>b=O\/b=U) y wr) (fun _ x _=>p.globals.length -(intOf x).toNat)
 case atStart=>exact⟨0,_,rfl,B6 _,by rw[Eo,AO,Gu];exact t,Fr.refl _ _⟩
 case round=>
  obtain⟨a,j,rfl,a6,k,i⟩:=hrel;by_cases T:a<p.globals.length
  ·have R:a<d.length:=by omega
   have A:Hid (B8 (fun b=>b<w.heap.size) w (.slice e d.length gc) d):=by rw[v];exact z
   obtain⟨b,cap,av,a9,I,L⟩:=A.out.at R;injection av with aw ax ay;subst aw ay;clear ax A;have a4:wr.cell? (Ac b a)=some d[a]:=((i.cell (CF I c.size) (by simp;omega) a).trans (c.cell (p:=Ac b a) I)).trans L;have N:p.globals[a]? =some p.globals[a]:=Bb T;have am:=Aee k (by unfold maxLen;omega) ak ((ad.out.2 a _ _ (Bb R) N).keep (n i)) (fun b X=>by constructor<;>omega) (m.out.globals _ (D4 T));have HS:Hid (∀J,(∃j,G4 O U (a+1) J (AF (Ce (AO Bv (p.globals.take a)).1 p.globals[a]).2 (AF (AO Bv (p.globals.take a)).2 (0,0))) j (Ce (AO Bv (p.globals.take a)).1 p.globals[a]).1)-> ∃j,G4 O U (a+1) J (AF (AO Bv (p.globals.take (a+1))).2 (0,0)) j (AO Bv (p.globals.take (a+1))).1):=fun J h=>by rw[FT _ _ (LW _ _)] at h;rw[XB _ _ _ _ N];exact h
   have az:=k.pl.lt;clear L k;generalize d[a]=ba at*;go_wp2_with(go_at_call 120;refine am.mono ?_;rintro ag bb⟨rfl,al,ai⟩)
   go_roundw
   case rel=>
    obtain⟨ae,ah⟩:=HS.out _ al;exact⟨a+1,ae,by go_num,by omega,ah,i.trans ai⟩
   case measure=>simp[intOf];omega
  ·have C:a=p.globals.length:=by omega
   rw[C,E7] at k;subst C;have q1:=ar i 1;have G:=k.pl;have az:=G.lt;have aj:=Xw p.body _ wr _ bs _ G k.rep (ab.out.keep (n i)) (aa.out.keep (n i)) (fun b X=>by omega) m.out.body.1 m.out.body.2;have ac:Hid (AF (D7 Bv p) (0,0)=AF (Bz (AO Bv p.globals).1 p.body) (AF (AO Bv p.globals).2 (0,0))):=by show _=_;unfold D7;rw[FT _ _ (LW _ _)]
   generalize a3:AF (Bz (AO Bv p.globals).1 p.body) (AF (AO Bv p.globals).2 (0,0))=B at*;clear t;go_wp2_with(go_at_call 121;refine aj.mono ?_;rintro ag a0⟨rfl,s,ao⟩;have a2:=s.code;have a1:=s.at_;have a7:=s.lt);go_quiet(fail);go_wp2;have l:=i.trans (Fr.of_par ao (.inl rfl));have an:Ay w a0:=⟨l.os.trans c.os,l.tape.trans c.tape,l.output.trans c.output,AT c.size l.size,fun V S=>(l.block V (CF S c.size) (by simp;omega)).trans (c.block V S)⟩;refine bodyPost_ret (v:=.tuple #[Aa (B.1:Nat),Aa (B.2:Nat)]) (by simp[results,results87,go_sem]) rfl ⟨by rw[ac.out],an.trans (Below.drewN' _ _)⟩
end
