/- The maker of code: what is declared. The maker of code: a ro -/
import Derived.Test.YtklobognaldjpaaGreatCLk9
import Derived.Deep.CutRange
set_option maxRecDepth 1000000
set_option maxHeartbeats 4000000
namespace Go.Proofs.YtklobognaldjpaaGreat
open Go.Proofs.Tryz
open Go.RowKit
section
variable{base mb gm U D:Nat}{lm:Option Nat}{w Y V:World}{M:Ck}{v v':Value}
section
variable(h:MK base mb gm U D lm w M v)
include h
theorem MK.putG(d:w.grownBy V (some gm)){f:Af->Nat×Nat}(n:Dh V gm (U+1) f):
 MK base mb gm (U+1) D lm V {M with E:={M.E with g:=f}} v/\Fr (fun b=>b=mb\/b=gm) w V:=by
 have O: ∀b,b<w.heap.size->b≠gm->V.heap[b]? =w.heap[b]? :=fun b O p=>d.block b O (fun j=>p (FH j));have g:V.heap[mb]? =w.heap[mb]? :=O mb h.lt (Ey h.gne);have a: ∀o,V.cell? (Ac mb o)=w.cell? (Ac mb o):=fun o=>World.cell?_of_block (w:=w) g;refine⟨⟨by rw[a];exact h.wd,by rw[a];exact h.pl,by rw[a];exact h.gl,by rw[a];exact h.lo,by rw[a];exact h.rs,fun o=>by rw[World.frozen?_of_block (w:=w) g];exact h.frz o,?_,n,?_,h.lnil,h.mlt,AT h.bas d.size,h.gne,h.lne⟩,Fr.of_grown d (.inr rfl)⟩
 ·have q:=h.row;obtain⟨k,c⟩:=h.own;refine⟨k,?_⟩;rcases c with c|⟨e,cap,Ad,i,l,m,r⟩
  ·exact .inl c
  ·have:=q e (by rw[i];rfl);exact .inr ⟨e,cap,Ad,i,l,by rw[O e this.2.1 this.2.2.2.1];exact m,r⟩
 ·intro b X;exact(h.lmap b X).block (O b (h.lmap b X).lt (h.lne b X).2)
theorem MK.setP(a:Nat):MK base mb gm U D lm (w.setCell (Ac mb 1) (Aa (a:Nat))) {M with places:=a} v/\Fr (fun b=>b=mb\/b=gm) w (w.setCell (Ac mb 1) (Aa (a:Nat))):=by
 have d: ∀b,b≠mb->(w.setCell (Ac mb 1) (Aa (a:Nat))).heap[b]? =w.heap[b]? :=fun b O=>Below.heap_setCell _ _ _ _ O;have c: ∀o,o≠1->(w.setCell (Ac mb 1) (Aa (a:Nat))).cell? (Ac mb o)=w.cell? (Ac mb o):=fun o n=>Bh _ _ _ _ (by intro e;cases e;exact n rfl)
 refine⟨⟨by rw[c _ (by omega)];exact h.wd,DW _ _ _ h.pl,by rw[c _ (by omega)];exact h.gl,by rw[c _ (by omega)];exact h.lo,by rw[c _ (by omega)];exact h.rs,fun o=>by rw[Cu];exact h.frz o,?_,
  h.gmap.block (d gm h.gne),fun b X=>(h.lmap b X).block (d b (h.lne b X).1),h.lnil,h.mlt,by have:=h.bas;simp[World.setCell];omega,h.gne,h.lne⟩,⟨rfl,rfl,rfl,by simp[World.setCell],fun b _ m=>d b (fun e=>m (.inl e))⟩⟩
 have p:=h.row;obtain⟨j,g⟩:=h.own;refine⟨j,?_⟩;rcases g with g|⟨f,cap,Ad,i,k,l,r⟩
 ·exact .inl g
 ·exact .inr ⟨f,cap,Ad,i,k,by rw[d f (p f (by rw[i];rfl)).2.2.1];exact l,r⟩
theorem Y5{a:Af}(o:a.size<=maxLen)(p size:Nat)(K:U<maxLen)(r:M.places+size<=1000000):
 Ah 129 #[Al mb,.agg #[.string a,Aa p],Aa size] w fun n Y=>n=.returned A6/\
  MK base mb gm (U+1) D lm Y ⟨M.words,M.places+size,{M.E with g:=B9 M.E.g a (M.places,size)}⟩ v/\Fr (fun b=>b=mb\/b=gm) w Y:=by
 have t:=h.lt;have d: ∀e,Ay w (w.alloc e):=fun e=>AP;have Z:=h.below (d (.cells #[.string a,Aa p] 210)).drew;obtain⟨V,k,j,i⟩:=Z.gmap.updateG o K (M.places,size);obtain⟨c,hF⟩:=Z.putG i j;have g:=c.setP (M.places+size);have s:(w.alloc (.cells #[.string a,Aa p] 210)).cell? (Ac mb 2)=some (.map (some gm)):=Z.gl;have u:(w.alloc (.cells #[.string a,Aa p] 210)).cell? (Ac mb 1)=some (Aa M.places):=Z.pl;have q:=c.pl;have x:=c.frz 1;have f:Hid _:=g;have l:Hid _:=hF;have m:Hid _:=(Fr.of_below (S:=fun b=>b=mb\/b=gm) (d (.cells #[.string a,Aa p] 210)).drew);unfold Ci at k;clear g hF c j i Z h d;simp only at q k;generalize M.places=y at*;go_enter func129,ntmps129;go_wp2;go_region;all_goals go_wp2
 all_goals go_end0
 all_goals exact⟨rfl,f.out.1,m.out.trans (l.out.trans f.out.2)⟩
end
end
def Gr(a:List A8):Af->Option Nat:=fun b=>(a.map (·.1)).findIdx? fun c=>AS c b
def KI(b:List A8):Prop:= ∀a c,b[a]? =some c->Gr (b.take a) c.1=none
theorem Ab9{a b c:Af}(f:AS a c=true)(g:AS b c=true):AS a b=true:=by
 unfold AS at*;have d:a.toList=c.toList:=by simpa using f
 have e:b.toList=c.toList:=by simpa using g
 simp[d,e]
theorem Afq{b:List A8}{a:Nat}{c:Af×Nat}(f:b[a]? =some c)(g:Gr (b.take a) c.1=none):Qz (Gr (b.take a)) c.1 a=Gr (b.take (a+1)):=by
 have o:a<b.length:=(BH.1 f).1;have h:b.take (a+1)=b.take a++[c]:=by rw[Mp,f];rfl
 funext n
 unfold Qz;rw[h];unfold Gr at*;rw[E6,Ux];have X:((b.take a).map (·.1)).length=a:=by rw[BF,It];omega
 by_cases e:AS c.1 n=true
 ·rw[Ag e]
  have i:((b.take a).map (·.1)).findIdx? (fun d=>AS d n)=none:=by
   rw[NP] at g⊢;intro d k;have:=g d k;cases l:AS d n with
   |false=>rfl
   |true=>rw[Ab9 l e] at this;cases this
  rw[i,X];simp[Uy,e]
 ·have j:AS c.1 n=false:=by simpa using e
  rw[Ae e];cases m:((b.take a).map (·.1)).findIdx? (fun d=>AS d n) with
  |some p=>rfl
  |none=>simp[Uy,j]
section
variable{base mb gm U D:Nat}{lm:Option Nat}{w Y V:World}{M:Ck}{v v':Value}
theorem MK.putL{a:Nat}(h:MK base mb gm U D (some a) w M v)(g:w.grownBy V (some a)){l:Af->Option Nat}{many:Nat}(q:G0 V a (D+1) l many):
 MK base mb gm U (D+1) (some a) V {M with E:={M.E with l:=l,n:=many}} v/\Fr (fun b=>b=a) w V:=by
 have O: ∀b,b<w.heap.size->b≠a->V.heap[b]? =w.heap[b]? :=fun b O d=>g.block b O (fun e=>d (FH e));have d:=h.lne a rfl;have j:V.heap[mb]? =w.heap[mb]? :=O mb h.lt (Ey d.1);have c: ∀o,V.cell? (Ac mb o)=w.cell? (Ac mb o):=fun o=>World.cell?_of_block (w:=w) j;refine⟨⟨by rw[c];exact h.wd,by rw[c];exact h.pl,by rw[c];exact h.gl,by rw[c];exact h.lo,by rw[c];exact h.rs,fun o=>by rw[World.frozen?_of_block (w:=w) j];exact h.frz o,?_,h.gmap.block (O gm h.gmap.lt (Ey d.2)),?_,(fun e=>by cases e),h.mlt,AT h.bas g.size,h.gne,h.lne⟩,Fr.of_grown g rfl⟩
 ·have s:=h.row;obtain⟨m,f⟩:=h.own;refine⟨m,?_⟩;rcases f with f|⟨i,cap,Ad,k,n,p,r⟩
  ·exact .inl f
  ·have:=s i (by rw[k];rfl);exact .inr ⟨i,cap,Ad,k,n,by rw[O i this.2.1 (this.2.2.2.2 a rfl)];exact p,r⟩
 ·intro b X;cases X;exact q
theorem MK.enter(h:MK base mb gm U D lm w M v):MK base mb gm U 0 (some w.heap.size) ((w.alloc (.map #[] 0)).setCell (Ac mb 3) (.map (some w.heap.size))) {M with E:={M.E with l:=fun _=>none,n:=0}} v/\
 Fr (fun b=>b=mb\/b=gm) w ((w.alloc (.map #[] 0)).setCell (Ac mb 3) (.map (some w.heap.size))):=by
 have p:=h.lt;have Z:=h.below ((Below.refl _ w).alloc (AA _) (.map #[] 0));have d: ∀b,b≠mb->((w.alloc (.map #[] 0)).setCell (Ac mb 3) (.map (some w.heap.size))).heap[b]? =(w.alloc (.map #[] 0)).heap[b]? :=fun b O=>Below.heap_setCell _ _ _ _ O;have c: ∀o,o≠3->((w.alloc (.map #[] 0)).setCell (Ac mb 3) (.map (some w.heap.size))).cell? (Ac mb o)=(w.alloc (.map #[] 0)).cell? (Ac mb o):=fun o m=>Bh _ _ _ _ (by intro a;cases a;exact m rfl)
 refine⟨⟨by rw[c _ (by omega)];exact Z.wd,by rw[c _ (by omega)];exact Z.pl,by rw[c _ (by omega)];exact Z.gl,DW _ _ _ Z.lo,by rw[c _ (by omega)];exact Z.rs,fun o=>by rw[Cu];exact Z.frz o,?_,
  Z.gmap.block (d gm h.gne),?_,(fun a=>by cases a),h.mlt,by have:=h.bas;simp[World.setCell];omega,h.gne,?_⟩,?_⟩
 ·have n:=Z.row;obtain⟨i,f⟩:=Z.own;refine⟨i,?_⟩;rcases f with f|⟨e,cap,Ad,g,j,k,r⟩
  ·exact .inl f
  ·exact .inr ⟨e,cap,Ad,g,j,by rw[d e (n e (by rw[g];rfl)).2.2.1];exact k,r⟩
 ·intro b X;cases X;exact(Ael w).block (d _ (by omega))
 ·intro b X;cases X;have:=h.gmap.lt;omega
 ·refine⟨rfl,rfl,rfl,by simp[World.setCell],fun b O l=> ?_⟩;rw[d b (fun a=>l (.inl a))];exact((Below.refl _ w).alloc (AA _) (.map #[] 0)).block b O
theorem Yb{c:Nat}{d:List A8}{a:Nat}{e:Af×Nat}{f:World}(h:MK base mb gm U a (some c) w M v)(X:M.E.l=Gr (d.take a))(q:M.E.n=a)(j:d[a]? =some e)(A:KI d)(s:e.1.size<=maxLen)(p:a<maxLen)(I:Ay w f):
 ∃V,(Instr.mapUpdate 171 (.map (some c)) (.string e.1) (Aa a)).run prog f=.ok () V/\MK base mb gm U (a+1) (some c) V {M with E:={M.E with l:=Gr (d.take (a+1)),n:=a+1}} v/\Fr (fun b=>b=c) w V:=by
 have g:=h.below I;have i:=g.lmap c rfl;rw[X,q] at i;have l:=A a e j;obtain⟨V,r,k,o⟩:=i.put s p l a;rw[Afq j l] at k;obtain⟨m,n⟩:=g.putL o k;exact⟨V,r,m,(Fr.of_below I).trans n⟩
variable{Q:AW}
theorem U5(h:MK base mb gm U D lm w M v)(r:Ro){vp vl:Value}{ba:Option Addr}{bn bc:Nat}(R:Dt Q w vp r.params)(X:Dt Q w vl r.locals)(N: ∀b,Q b->b≠mb/\b≠gm)(A:KI (r.params++r.locals))
 (be:r.name.1.size<=maxLen)(a3: ∀C∈r.params++r.locals,C.1.size<=maxLen)(K:U<maxLen)(J:r.params.length+r.locals.length<=1000):
 Ah 153 #[Al mb,.agg #[.string r.name.1,Aa r.name.2,vp,vl,.slice ba bn bc]] w fun f Y=>f=.returned A6/\
  ∃i bi,MK base mb gm (U+1) bi (some i) Y ⟨M.words,M.places,⟨B9 M.E.g r.name.1 (M.words.length,0),Gr (r.params++r.locals),r.params.length+r.locals.length,M.E.res⟩⟩ v/\Fr (fun b=>b=mb\/b=gm) w Y:=by
 have bt:=h.lt;have bo:=h.gmap.lt;obtain⟨z,B,rfl⟩:=R.len;obtain⟨x,y,rfl⟩:=X.len;have S:Hid (Dt Q w (.slice z r.params.length B) r.params):=R;have E:Hid (Dt Q w (.slice x r.locals.length y) r.locals):=X;have aq:Hid (KI (r.params++r.locals)):=A;have av:Hid (∀C∈r.params++r.locals,C.1.size<=maxLen):=a3;have bu:=fun m=>run_makeMap (P:=prog) 171 m;have a4: ∀c,Ay w (w.alloc c):=fun c=>AP;generalize aw:Obj.cells #[.string r.name.1,Aa r.name.2,.slice z r.params.length B,.slice x r.locals.length y,.slice ba bn bc] 218=c;have Z:=h.below (a4 c).drew;obtain⟨V,G,a1,az⟩:=Z.gmap.updateG be K (M.words.length,0);obtain⟨p,hF⟩:=Z.putG az a1
 have a9: ∀a5 m,(Builtin.len_ #[23] a5 #[v]).run prog m=.ok (Aa M.words.length) m:=by
  intro a5 m;rcases h.own.2 with⟨rfl,f⟩|⟨bm,cap,Ad,rfl,_⟩
  ·rw[f];kernel_rfl
  ·kernel_rfl
 have a7:(w.alloc c).cell? (Ac mb 2)=some (.map (some gm)):=Z.gl;have bh:(w.alloc c).cell? (Ac mb 0)=some v:=Z.wd;have ao: ∀o,(w.alloc c).cell? (Ac w.heap.size o)= #[Value.string r.name.1,Aa r.name.2,.slice z r.params.length B,.slice x r.locals.length y,.slice ba bn bc][o]? :=fun o=>by rw[<-aw];exact Cl w _ _ o
 have F:Fr (fun b=>b=mb\/b=gm) (w.alloc c) V:=(Fr.of_below (Below.refl _ _).drew).trans hF;have q1: ∀o,V.cell? (Ac w.heap.size o)= #[Value.string r.name.1,Aa r.name.2,.slice z r.params.length B,.slice x r.locals.length y,.slice ba bn bc][o]? :=fun o=>by rw[F.cell (by simp) (by omega),ao]
 have br:=p.lo;have bx:=p.frz 3;have bd:=p.lt;obtain⟨W,ax⟩:=p.enter;have aa:Fr (fun b=>b=mb\/b=gm) (w.alloc c) ((V.alloc (.map #[] 0)).setCell (Ac mb 3) (.map (some V.heap.size))):=F.trans ax;rw[World.setCell_alloc_past _ _ _ _ bd] at W aa;have bw:(w.alloc c).heap.size=w.heap.size+1:=by simp
 have bp:w.heap.size<V.heap.size:=by have:=F.size;omega
 have H:Hid _:=W;have I:Hid _:=aa;unfold Ci at G;simp only at G;rw[show((0:Nat):Int)=0 from rfl] at G;have bk:=ao 0;have bz:=q1 2;clear W ax F hF p a1 az Z R X A a3 aa h ao q1;go_enter func153,ntmps153;go_upto_region 1 with fail
 go_cut [] from 8 to 20 (fun bl=>Hid (bl=V))
 case first=>
  go_region;all_goals(go_wp2_with fail;go_meet;exact rfl)
 case rest=>
  have bg:=hcut.out;clear hcut;subst bg;clear G a7 bh bk a9;generalize bq:wc.heap.size=i at*;go_wp2;go_loopw [5,28] (fun _ k wr=> ∃a:Nat,k=Aa a/\a<=r.params.length/\MK base mb gm (U+1) a (some i) wr ⟨M.words,M.places,⟨B9 M.E.g r.name.1 (M.words.length,0),Gr ((r.params++r.locals).take a),a,M.E.res⟩⟩ v/\Fr (fun b=>b=mb\/b=gm\/(w.alloc c).heap.size<=b) (w.alloc c) wr) (fun _ k _=>r.params.length -(intOf k).toNat)
  case atStart=>exact⟨0,rfl,B6 _,by rw[Eo,show Gr []=fun _=>none from by funext n;rfl];exact H.out,Fr.weak I.out fun b _ O=>O.elim Or.inl fun f=>Or.inr (Or.inl f)⟩
  case round=>
   obtain⟨a,rfl,a0,d,e⟩:=hrel;have ac: ∀o,wr.cell? (Ac w.heap.size o)= #[Value.string r.name.1,Aa r.name.2,.slice z r.params.length B,.slice x r.locals.length y,.slice ba bn bc][o]? :=fun o=>by rw[e.cell (by simp) (by omega),<-aw];exact Cl w _ _ o
   by_cases g:a<r.params.length
   ·obtain⟨b,cap,ag,ae,ab,al,am⟩:=S.out.at g;injection ag with ah ai aj;subst ah aj;clear ai;have t: ∀o,wr.cell? (Ac b o)=w.cell? (Ac b o):=fun o=>by rw[e.cell (by omega) (by have:=N b ae;omega),EW _ _ _ ab]
    rw[<-t] at al am;have ak:=d.lt;have u:(r.params++r.locals)[a]? =some r.params[a]:=by rw[CR g];exact Bb g
    have af:=av.out r.params[a] (Iu _ (D4 g));have l: ∀j,Ay wr (wr.alloc j).drew:=fun j=>((Below.refl _ _).alloc (AA _) j).drew;obtain⟨ap,bf,s,q⟩:=Yb d rfl rfl u aq.out af (by unfold maxLen;omega) (l (.cells #[.string r.params[a].1,Aa r.params[a].2] 210));have ad:=(d.below (l (.cells #[.string r.params[a].1,Aa r.params[a].2] 210))).len;have bb:(wr.alloc (.cells #[.string r.params[a].1,Aa r.params[a].2] 210)).cell? (Ac mb 3)=some (.map (some i)):=(d.below (l _)).lo;have P:Hid _:=s;have L:Hid (Fr (fun b=>b=mb\/b=gm\/(w.alloc c).heap.size<=b) (w.alloc c) ap):=e.trans (q.weak fun an _ f=>.inr (.inr (by subst f;omega)));simp only at ad;clear s q d e t ac u H I S E;generalize r.params[a]=C at*;go_wp2;go_region;all_goals go_wp2_with fail
    all_goals go_roundw
    all_goals first|exact⟨a+1,by go_num,by omega,P.out,L.out⟩|(simp[intOf];omega)
   ·have T:a=r.params.length:=by omega
    subst T;have a6:=ac 3;have ak:=d.lt;have ay:MK base mb gm (U+1) r.params.length (some i) wr ⟨M.words,M.places,⟨B9 M.E.g r.name.1 (M.words.length,0),Gr ((r.params++r.locals).take (r.params.length+0)),r.params.length+0,M.E.res⟩⟩ v:=d;have au:Hid _:=ay;have ar:Hid _:=e;clear H I S d ay e ac g a0;go_wp2;go_loopw [7,47] (fun _ k wr=> ∃a:Nat,k=Aa a/\a<=r.locals.length/\MK base mb gm (U+1) (r.params.length+a) (some i) wr ⟨M.words,M.places,⟨B9 M.E.g r.name.1 (M.words.length,0),Gr ((r.params++r.locals).take (r.params.length+a)),r.params.length+a,M.E.res⟩⟩ v/\Fr (fun b=>b=mb\/b=gm\/(w.alloc c).heap.size<=b) (w.alloc c) wr) (fun _ k _=>r.locals.length -(intOf k).toNat)
    case atStart=>exact⟨0,rfl,B6 _,au.out,ar.out⟩
    case round=>
     clear au ar a6 ak;obtain⟨a,rfl,a0,d,e⟩:=hrel;by_cases g:a<r.locals.length
     ·obtain⟨b,cap,ag,ae,ab,al,am⟩:=E.out.at g;injection ag with ah ai aj;subst ah aj;clear ai;have t: ∀o,wr.cell? (Ac b o)=w.cell? (Ac b o):=fun o=>by rw[e.cell (by omega) (by have:=N b ae;omega),EW _ _ _ ab]
      rw[<-t] at al am;have ak:=d.lt;have u:(r.params++r.locals)[r.params.length+a]? =some r.locals[a]:=by rw[CS (by omega),Jy];exact Bb g
      have af:=av.out r.locals[a] (J6 _ (D4 g));have l: ∀j,Ay wr (wr.alloc j).drew:=fun j=>((Below.refl _ _).alloc (AA _) j).drew;obtain⟨ap,bf,s,q⟩:=Yb d rfl rfl u aq.out af (by unfold maxLen;omega) (l (.cells #[.string r.locals[a].1,Aa r.locals[a].2] 210));have ad:=(d.below (l (.cells #[.string r.locals[a].1,Aa r.locals[a].2] 210))).len;have bb:(wr.alloc (.cells #[.string r.locals[a].1,Aa r.locals[a].2] 210)).cell? (Ac mb 3)=some (.map (some i)):=(d.below (l _)).lo;have P:Hid _:=s;have L:Hid (Fr (fun b=>b=mb\/b=gm\/(w.alloc c).heap.size<=b) (w.alloc c) ap):=e.trans (q.weak fun an _ f=>.inr (.inr (by subst f;omega)));simp only at ad;clear s q d e t u E;generalize r.locals[a]=C at*;generalize bv:r.params.length+a=bj at*;go_wp2;go_region;all_goals go_wp2_with fail
      all_goals go_roundw
      all_goals first|exact⟨a+1,by go_num,by omega,by rw[show r.params.length+(a+1)=bj+1 by omega];exact P.out,L.out⟩|(simp[intOf];omega)
     ·have T:a=r.locals.length:=by omega
      subst T;rw[I1 (by rw[AG];omega)] at d;clear E;go_wp2;go_end0;exact⟨rfl,i,_,d,(Fr.of_below (a4 c)).trans ⟨e.os,e.tape,e.output,e.size,fun an a8 a2=>e.block an a8 (by rintro(f|f|f);exact a2 (.inl f);exact a2 (.inr f);omega)⟩⟩
end
def BN(c:CG):Ck:=⟨Au c.words,c.places,Fc c⟩
section
variable{base mb gm U D:Nat}{lm:Option Nat}{w Y V:World}{M:Ck}{v v':Value}{Q:AW}
theorem Mv.keeps{k:Nat}(c:Mv mb v v' w Y)(f:k≠mb)(d:v.ownBlock≠some k)(e:k<w.heap.size):(∀o,Y.cell? (Ac k o)=w.cell? (Ac k o))/\v'.ownBlock≠some k/\k<Y.heap.size:=by
 refine⟨fun o=>c.1.cell e (by rintro(a|a);exact f a;exact d a) o,fun a=> ?_,CF e c.1.size⟩;rcases c.2 with b|b
 ·exact d (b▸a)
 ·have:=b k a;omega
theorem MK.turn{M':Ck}{lm':Option Nat}{o:Nat}{u:Value}(h:MK base mb gm U D lm w M v)(k:o=3\/o=4)(q:o=3->u=.map lm')(s:o=4->lm'=lm)(t:o=4->u=.string M'.E.res)(x:o=3->M'.E.res=M.E.res)
 (E:M'.words=M.words)(R:M'.places=M.places)(z:M'.E.g=M.E.g)(X: ∀b,lm'=some b->lm=some b/\M'.E.l=M.E.l/\M'.E.n=M.E.n)(i:lm'=none->(∀F,M'.E.l F=none)/\M'.E.n=0):
 MK base mb gm U D lm' (w.setCell (Ac mb o) u) M' v/\Fr (fun b=>b=mb\/b=gm) w (w.setCell (Ac mb o) u):=by
 have e: ∀b,b≠mb->(w.setCell (Ac mb o) u).heap[b]? =w.heap[b]? :=fun b O=>Below.heap_setCell _ _ _ _ O;have d: ∀c,c≠o->(w.setCell (Ac mb o) u).cell? (Ac mb c)=w.cell? (Ac mb c):=fun c B=>Bh _ _ _ _ (by intro a;cases a;exact B rfl)
 refine⟨⟨by rw[d _ (by omega)];exact h.wd,by rw[d _ (by omega),R];exact h.pl,by rw[d _ (by omega)];exact h.gl,?_,?_,fun c=>by rw[Cu];exact h.frz c,?_,
  by rw[z];exact h.gmap.block (e gm h.gne),fun b O=> ?_,i,h.mlt,by have:=h.bas;simp[World.setCell];omega,h.gne,fun b O=>h.lne b (X b O).1⟩,⟨rfl,rfl,rfl,by simp[World.setCell],fun b _ i=>e b (fun a=>i (.inl a))⟩⟩
 ·rcases k with a|a
  ·rw[a,q a];exact DW _ _ _ h.lo
  ·rw[d _ (by omega),s a];exact h.lo
 ·rcases k with a|a
  ·rw[d _ (by omega),x a];exact h.rs
  ·rw[a,t a];exact DW _ _ _ h.rs
 ·have C:=h.row;rw[E];obtain⟨p,g⟩:=h.own;refine⟨p,?_⟩;rcases g with g|⟨f,cap,Ad,l,y,A,r⟩
  ·exact .inl g
  ·exact .inr ⟨f,cap,Ad,l,y,by rw[e f (C f (by rw[l];rfl)).2.2.1];exact A,r⟩
 ·obtain⟨j,m,n⟩:=X b O;rw[m,n];exact(h.lmap b j).block (e b (h.lne b j).1)
def GF(base mb gm:Nat)(w Y:World):Prop:=Fr (fun b=>b=mb\/b=gm\/base<=b) w Y
theorem GF.of_mv(h:MK base mb gm U D lm w M v)(d:Mv mb v v' w Y):GF base mb gm w Y:=d.1.weak fun b _ a=>a.elim .inl fun c=>.inr (.inr (h.row b c).1)
theorem GF.of_fr(d:Fr (fun b=>b=mb\/b=gm) w Y):GF base mb gm w Y:=d.weak fun _ _ a=>a.elim .inl fun c=>.inr (.inl c)
theorem GF.of_below(a:Ay w Y):GF base mb gm w Y:=Fr.of_below a
theorem GF.trans{a b c:World}(h:GF base mb gm a b)(d:GF base mb gm b c):GF base mb gm a c:=Fr.trans h d
theorem GF.keepQ(h:GF base mb gm w Y)(N: ∀b,Q b->b<base/\b≠mb/\b≠gm):BR Q w Y:=Fr.keepQ h fun b O a=>by have:=N b O;omega
def Mh(base mb gm U:Nat)(c:CG)(w:World)(a:Ending)(Y:World):Prop:=
 a=.returned A6/\ ∃v' b,MK base mb gm U b none Y (BN c) v'/\GF base mb gm w Y
theorem Px(a:Bool)(b:Af->Nat×Nat)(r:Ro):CT a b r=⟨b,Gr (r.params++r.locals),r.params.length+r.locals.length,if a then r.name.1 else⟨#[]⟩⟩:=by
 have c:r.cells.length=r.params.length+r.locals.length:=by unfold Ro.cells;simp
 unfold CT;rw[c];rfl
section
variable{c:CG}(h:MK base mb gm U D none w (BN c) v)(r:Ro){vp vl vb:Value}{C:List Value}(R:Dt Q w vp r.params)(X:Dt Q w vl r.locals)(O:B8 Q w vb C)(Z:Di Q w C r.body)(N: ∀b,Q b->b<base/\b≠mb/\b≠gm)(A:KI (r.params++r.locals))(I:MA r)(K:U<maxLen)(J:r.params.length+r.locals.length<=1000)
include h r R X O Z N A I K J
theorem AfW(z:(Dj c (.proc r)).words.length<=1000000):
 Ah 130 #[Al mb,.agg #[.string r.name.1,Aa r.name.2,vp,vl,vb]] w (Mh base mb gm (U+1) (Dj c (.proc r)) w):=by
 have a7:=h.lt;have a6:=h.gmap.lt;obtain⟨af,ag,rfl⟩:=R.len;obtain⟨ad,ae,rfl⟩:=X.len;obtain⟨m,n,rfl⟩:=O.len;have F: ∀d,Ay w (w.alloc d):=fun d=>AP;have ar: ∀b,Q b->b<base/\b≠mb:=fun b O=>⟨(N b O).1,(N b O).2.1⟩;have ac: ∀d,BR Q w (w.alloc d):=fun d=>(GF.of_below (base:=base) (mb:=mb) (gm:=gm) (F d)).keepQ N;have ab:(BN c).words.length=c.words.length:=by unfold BN;simp
 have B:(Dj c (.proc r)).words=c.words++[25,r.locals.length]++Bt (CT false (B9 c.g r.name.1 (c.words.length,0)) r) (c.words.length+2) r.body++[26]:=rfl;rw[B] at z;simp only[AG,Bg,Bm] at z
 have G:=fun d=>U5 (ba:=m) (bn:=C.length) (bc:=n) (h.below (F d)) r (R.keep (ac d)) (X.keep (ac d)) (fun b O=>⟨(N b O).2.1,(N b O).2.2⟩) A (IN I.name) (fun ai ax=>by
  rcases BD.1 ax with u|u
  ·exact IN (I.params ai u)
  ·exact IN (I.locals ai u)) K J
 generalize l:(⟨(BN c).words,(BN c).places,⟨B9 (BN c).E.g r.name.1 ((BN c).words.length,0),Gr (r.params++r.locals),r.params.length+r.locals.length,(BN c).E.res⟩⟩:Ck)=e at G;have q:e.E=CT false (B9 c.g r.name.1 (c.words.length,0)) r:=by rw[<-l,Px];show _=_;rw[ab];rfl
 have E:e.words=Au c.words:=by rw[<-l];rfl
 have W:e.places=c.places:=by rw[<-l];rfl
 have p:e.words.length=c.words.length:=by rw[E];simp
 have t:(e.more [25,(r.locals.length:Int)]).words.length=c.words.length+2:=by rw[Bo,p];rfl
 have ao:=fun a f i g(k:MK base mb gm (U+1) g (some i) a e f)=>EI k [25,(r.locals.length:Int)] 3 (by rw[p];simp;omega);have P: ∀a f i g,MK base mb gm (U+1) g (some i) a (e.more [25,(r.locals.length:Int)]) f->GF base mb gm w a->Ah 100 #[Al mb,.slice m C.length n] a (BZ base mb gm (U+1) g (some i) ((e.more [25,(r.locals.length:Int)]).more ((Bt (CT false (B9 c.g r.name.1 (c.words.length,0)) r) (c.words.length+2) r.body).map Int.ofNat)) f a):=fun a f i g k T=>by have:=TX (E:=CT false (B9 c.g r.name.1 (c.words.length,0)) r) r.body Q a (.slice m C.length n) C _ f k q (O.keep (T.keepQ N)) (Z.keep (T.keepQ N)) ar I.body.1 I.body.2 (by rw[t];omega);rw[t] at this;exact this
 have ap:=fun a f i g(k:MK base mb gm (U+1) g (some i) a ((e.more [25,(r.locals.length:Int)]).more ((Bt (CT false (B9 c.g r.name.1 (c.words.length,0)) r) (c.words.length+2) r.body).map Int.ofNat)) f)=>EI k [26] 3 (by rw[Bo,t,BF];simp;omega)
 have aj: ∀a f i g,MK base mb gm (U+1) g (some i) a (((e.more [25,(r.locals.length:Int)]).more ((Bt (CT false (B9 c.g r.name.1 (c.words.length,0)) r) (c.words.length+2) r.body).map Int.ofNat)).more [26]) f->MK base mb gm (U+1) g none (a.setCell (Ac mb 3) (.map none)) (BN (Dj c (.proc r))) f/\Fr (fun b=>b=mb\/b=gm) a (a.setCell (Ac mb 3) (.map none)):=fun a f i g k=>
  k.turn (M':=BN (Dj c (.proc r))) (lm':=none) (.inl rfl) (fun _=>rfl) (fun j=>by cases j) (fun j=>by cases j) (fun _=>by rw[ER,ER,ER,q];rfl)
   (by rw[CM,CM];show(Dj c (.proc r)).words.map Int.ofNat=e.words++_;rw[B,E];simp) (by show c.places=e.places;rw[W]) (by rw[ER,ER,ER,q];rfl) (fun b O=>by cases O) (fun _=>⟨fun _=>rfl,rfl⟩)
 clear l q E W p t z B ab A R X O Z I;generalize((e.more [25,(r.locals.length:Int)]).more ((Bt (CT false (B9 c.g r.name.1 (c.words.length,0)) r) (c.words.length+2) r.body).map Int.ofNat)).more [26]=a4 at*;generalize(e.more [25,(r.locals.length:Int)]).more ((Bt (CT false (B9 c.g r.name.1 (c.words.length,0)) r) (c.words.length+2) r.body).map Int.ofNat)=a3 at*;generalize e.more [25,(r.locals.length:Int)]=a2 at*;unfold BZ at P;have aw:v.ownBlock≠some w.heap.size:=fun j=>by have:=(h.row _ j).2.1;omega
 generalize aq:Obj.cells #[.string r.name.1,Aa r.name.2,.slice af r.params.length ag,.slice ad r.locals.length ae,.slice m C.length n] 220=d;have ah: ∀o,(w.alloc d).cell? (Ac w.heap.size o)= #[Value.string r.name.1,Aa r.name.2,.slice af r.params.length ag,.slice ad r.locals.length ae,.slice m C.length n][o]? :=fun o=>by rw[<-aq];exact Cl w _ _ o
 have D:w.heap.size<(w.alloc d).heap.size:=by simp
 have ak:Hid (GF base mb gm w (w.alloc d)):=GF.of_below (F d);go_enter func130,ntmps130;go_wp2_with(first|(go_at_call 101;have _q:=x;refine(ap _ _ _ _ x).mono ?_;rintro j a1⟨rfl,v4,y,av⟩;have a5:=y.lo;have a8:=y.frz 3;have H:=aj _ _ _ _ y;have L:Hid _:=H;clear H;have an:Hid (GF base mb gm w a1):=am.out.trans (GF.of_mv x av))|(go_at_call 100;refine(P _ _ _ _ S M.out).mono ?_;rintro j a0⟨rfl,bc,x,au⟩;have am:Hid (GF base mb gm w a0):=M.out.trans (GF.of_mv S au))|(go_at_call 101;refine(ao _ _ _ _ l).mono ?_;rintro j az⟨rfl,bb,S,aa⟩;obtain⟨Y,_,_⟩:=aa.keeps (k:=w.heap.size) (by omega) aw p;have ba:=(Y 4).trans ay;have M:Hid (GF base mb gm w az):=al.out.trans (GF.of_mv l aa);clear Y)|(go_at_call 153;refine(G _).mono ?_;rintro j V⟨rfl,i,g,l,s⟩;have a9:=(s.cell D (by omega) 3).trans (ah 3);have ay:=(s.cell D (by omega) 4).trans (ah 4);have p:w.heap.size<V.heap.size:=CF D s.size;have al:Hid (GF base mb gm w V):=ak.out.trans (GF.of_fr s)));go_end0;exact⟨rfl,v4,_,L.out.1,an.out.trans (GF.of_fr L.out.2)⟩
theorem AcH(G:(Dj c (.func r)).words.length<=1000000):
 Ah 131 #[Al mb,.agg #[.string r.name.1,Aa r.name.2,vp,vl,vb]] w (Mh base mb gm (U+1) (Dj c (.func r)) w):=by
 have bu:=h.lt;have bt:=h.gmap.lt;obtain⟨ap,aq,rfl⟩:=R.len;obtain⟨an,ao,rfl⟩:=X.len;obtain⟨n,p,rfl⟩:=O.len;have P: ∀j,Ay w (w.alloc j):=fun j=>AP;have a7: ∀b,Q b->b<base/\b≠mb:=fun b O=>⟨(N b O).1,(N b O).2.1⟩;have am: ∀j,BR Q w (w.alloc j):=fun j=>(GF.of_below (base:=base) (mb:=mb) (gm:=gm) (P j)).keepQ N;have al:(BN c).words.length=c.words.length:=by unfold BN;simp
 have af:r.cells.length=r.params.length+r.locals.length:=by unfold Ro.cells;simp
 have H:(Dj c (.func r)).words=c.words++[1]++[25,r.locals.length+1]++Bt (CT true (B9 c.g r.name.1 (c.words.length,0)) r) (c.words.length+3) r.body++[27,r.cells.length]:=rfl;rw[H] at G;simp only[AG,Bg,Bm] at G
 have T:=fun j=>U5 (ba:=n) (bn:=C.length) (bc:=p) (h.below (P j)) r (R.keep (am j)) (X.keep (am j)) (fun b O=>⟨(N b O).2.1,(N b O).2.2⟩) A (IN I.name) (fun av bc=>by
  rcases BD.1 bc with E|E
  ·exact IN (I.params av E)
  ·exact IN (I.locals av E)) K J
 have D: ∀a e f g,MK base mb gm (U+1) g (some f) a ⟨(BN c).words,(BN c).places,⟨B9 (BN c).E.g r.name.1 ((BN c).words.length,0),Gr (r.params++r.locals),r.params.length+r.locals.length,(BN c).E.res⟩⟩ e->
  MK base mb gm (U+1) g (some f) (a.setCell (Ac mb 4) (.string r.name.1)) ⟨Au c.words,c.places,CT true (B9 c.g r.name.1 (c.words.length,0)) r⟩ e/\Fr (fun b=>b=mb\/b=gm) a (a.setCell (Ac mb 4) (.string r.name.1)):=fun a e f g k=>
  k.turn (M':=⟨Au c.words,c.places,CT true (B9 c.g r.name.1 (c.words.length,0)) r⟩) (lm':=some f) (.inr rfl) (fun d=>by cases d) (fun _=>rfl) (fun _=>rfl) (fun d=>by cases d) rfl rfl (by rw[al];rfl) (fun b O=>⟨O,by rw[Px],by rw[Px]⟩) (fun d=>by cases d)
 generalize(⟨(BN c).words,(BN c).places,⟨B9 (BN c).E.g r.name.1 ((BN c).words.length,0),Gr (r.params++r.locals),r.params.length+r.locals.length,(BN c).E.res⟩⟩:Ck)=bl at T D;generalize l:(⟨Au c.words,c.places,CT true (B9 c.g r.name.1 (c.words.length,0)) r⟩:Ck)=i at D;have q:i.E=CT true (B9 c.g r.name.1 (c.words.length,0)) r:=by rw[<-l]
 have M:i.words=Au c.words:=by rw[<-l]
 have ah:i.places=c.places:=by rw[<-l]
 have m:i.words.length=c.words.length:=by rw[M];simp
 have u:(i.more [1]).words.length=c.words.length+1:=by rw[Bo,m];rfl
 have z:((i.more [1]).more [25,(r.locals.length:Int)+1]).words.length=c.words.length+3:=by rw[Bo,u];rfl
 have a3: ∀(a:World)(e:Value)(f g:Nat),MK base mb gm (U+1) g (some f) (a.setCell (Ac mb 4) (.string r.name.1)) i e->Ah 101 #[Al mb,Ar a.heap.size 1 1] ((a.setCell (Ac mb 4) (.string r.name.1)).alloc (.cells #[Aa 1] 3)) fun d Y=>d=.returned (Aa i.words.length)/\ ∃v',MK base mb gm (U+1) g (some f) Y (i.more [1]) v'/\Mv mb e v' (a.setCell (Ac mb 4) (.string r.name.1)) Y:=fun a e f g k=>by have:=EI k [1] 3 (by rw[m];simp;omega);rw[show(a.setCell (Ac mb 4) (.string r.name.1)).heap.size=a.heap.size from by simp[World.setCell]] at this;exact this
 have a4:=fun a e f g(k:MK base mb gm (U+1) g (some f) a (i.more [1]) e)=>EI k [25,(r.locals.length:Int)+1] 3 (by rw[u];simp;omega);have ac: ∀a e f g,MK base mb gm (U+1) g (some f) a ((i.more [1]).more [25,(r.locals.length:Int)+1]) e->GF base mb gm w a->Ah 100 #[Al mb,.slice n C.length p] a (BZ base mb gm (U+1) g (some f) (((i.more [1]).more [25,(r.locals.length:Int)+1]).more ((Bt (CT true (B9 c.g r.name.1 (c.words.length,0)) r) (c.words.length+3) r.body).map Int.ofNat)) e a):=fun a e f g k ag=>by have:=TX (E:=CT true (B9 c.g r.name.1 (c.words.length,0)) r) r.body Q a (.slice n C.length p) C _ e k q (O.keep (ag.keepQ N)) (Z.keep (ag.keepQ N)) a7 I.body.1 I.body.2 (by rw[z];omega);rw[z] at this;exact this
 have a2: ∀a e f g,MK base mb gm (U+1) g (some f) a (((i.more [1]).more [25,(r.locals.length:Int)+1]).more ((Bt (CT true (B9 c.g r.name.1 (c.words.length,0)) r) (c.words.length+3) r.body).map Int.ofNat)) e->Ah 154 #[Al mb] a fun d Y=>d=.returned (Aa r.cells.length)/\Y=a:=fun a e f g k=>by have:=Y6 k;rw[ER,ER,ER,q,Px] at this;rw[af];exact this
 have a5:=fun a e f g(k:MK base mb gm (U+1) g (some f) a (((i.more [1]).more [25,(r.locals.length:Int)+1]).more ((Bt (CT true (B9 c.g r.name.1 (c.words.length,0)) r) (c.words.length+3) r.body).map Int.ofNat)) e)=>EI k [27,(r.cells.length:Int)] 3 (by rw[Bo,z,BF];simp;omega)
 have aw: ∀a e f g,MK base mb gm (U+1) g (some f) a ((((i.more [1]).more [25,(r.locals.length:Int)+1]).more ((Bt (CT true (B9 c.g r.name.1 (c.words.length,0)) r) (c.words.length+3) r.body).map Int.ofNat)).more [27,(r.cells.length:Int)]) e->MK base mb gm (U+1) g none ((a.setCell (Ac mb 3) (.map none)).setCell (Ac mb 4) (.string ⟨#[]⟩)) (BN (Dj c (.func r))) e/\Fr (fun b=>b=mb\/b=gm) a ((a.setCell (Ac mb 3) (.map none)).setCell (Ac mb 4) (.string ⟨#[]⟩)):=fun a e f g k=>by
  have ar:=k.turn (M':=⟨(Dj c (.func r)).words.map Int.ofNat,c.places,⟨(Dj c (.func r)).g,fun _=>none,0,r.name.1⟩⟩) (lm':=none) (o:=3) (u:=.map none) (.inl rfl) (fun _=>rfl) (fun d=>by cases d) (fun d=>by cases d) (fun _=>by rw[ER,ER,ER,ER,q];rfl)
   (by rw[CM,CM,CM];show(Dj c (.func r)).words.map Int.ofNat=i.words++_;rw[H,M];simp) (by show c.places=i.places;rw[ah]) (by rw[ER,ER,ER,ER,q];rfl) (fun b O=>by cases O) (fun _=>⟨fun _=>rfl,rfl⟩)
  have au:=ar.1.turn (M':=BN (Dj c (.func r))) (lm':=none) (o:=4) (u:=.string ⟨#[]⟩) (.inr rfl) (fun d=>by cases d) (fun _=>rfl) (fun _=>rfl) (fun d=>by cases d) rfl rfl rfl (fun b O=>by cases O) (fun _=>⟨fun _=>rfl,rfl⟩);exact⟨au.1,ar.2.trans au.2⟩
 clear l q M ah m u z G H al A R X O Z I af;generalize(((i.more [1]).more [25,(r.locals.length:Int)+1]).more ((Bt (CT true (B9 c.g r.name.1 (c.words.length,0)) r) (c.words.length+3) r.body).map Int.ofNat)).more [27,(r.cells.length:Int)]=bp at*;generalize((i.more [1]).more [25,(r.locals.length:Int)+1]).more ((Bt (CT true (B9 c.g r.name.1 (c.words.length,0)) r) (c.words.length+3) r.body).map Int.ofNat)=bo at*;generalize(i.more [1]).more [25,(r.locals.length:Int)+1]=bn at*;generalize i.more [1]=bm at*;generalize r.cells.length=b3 at*;unfold BZ at ac;have ba:v.ownBlock≠some w.heap.size:=fun d=>by have:=(h.row _ d).2.1;omega
 generalize a6:Obj.cells #[.string r.name.1,Aa r.name.2,.slice ap r.params.length aq,.slice an r.locals.length ao,.slice n C.length p] 222=j;have S: ∀o,(w.alloc j).cell? (Ac w.heap.size o)= #[Value.string r.name.1,Aa r.name.2,.slice ap r.params.length aq,.slice an r.locals.length ao,.slice n C.length p][o]? :=fun o=>by rw[<-a6];exact Cl w _ _ o
 have B:w.heap.size<(w.alloc j).heap.size:=by simp
 have ax:Hid (GF base mb gm w (w.alloc j)):=GF.of_below (P j);go_enter func131,ntmps131;go_wp2_with(first|(go_at_call 101;have _q:=y;refine(a5 _ _ _ _ y).mono ?_;rintro d bk⟨rfl,bg,t,a9⟩;have bq:=t.lo;have bw:=t.frz 3;have br:=t.rs;have bx:=t.frz 4;have W:=aw _ _ _ _ t;have aa:Hid _:=W;clear W;have a1:Hid (GF base mb gm w bk):=a0.out.trans (GF.of_mv y a9))|(go_at_call 154;refine Aq (a2 _ _ _ _ y) ?_)|(go_at_call 100;refine(ac _ _ _ _ ad ab.out).mono ?_;rintro d bj⟨rfl,v4,y,a8⟩;have a0:Hid (GF base mb gm w bj):=ab.out.trans (GF.of_mv ad a8))|(go_at_call 101;have _q:=F;refine(a4 _ _ _ _ F).mono ?_;rintro d bi⟨rfl,b5,ad,ak⟩;obtain⟨ai,_,_⟩:=ak.keeps (k:=w.heap.size) (by omega) bb u;have b2:=(ai 4).trans bf;have ab:Hid (GF base mb gm w bi):=az.out.trans (GF.of_mv F ak);clear ai)|(go_at_call 101;refine(a3 _ _ _ _ ae).mono ?_;rintro d bh⟨rfl,b4,F,aj⟩;obtain⟨L,bb,u⟩:=aj.keeps (k:=w.heap.size) (by omega) ba (CF m x.size);have b1:=(L 3).trans ((x.cell m (by omega) 3).trans bd);have bf:=(L 4).trans ((x.cell m (by omega) 4).trans be);have az:Hid (GF base mb gm w bh):=(ay.out.trans (GF.of_fr x)).trans (GF.of_mv ae aj);clear L)|(go_at_call 153;refine(T _).mono ?_;rintro d V⟨rfl,f,g,l,s⟩;have b0:=(s.cell B (by omega) 0).trans (S 0);have bd:=(s.cell B (by omega) 3).trans (S 3);have be:=(s.cell B (by omega) 4).trans (S 4);have m:w.heap.size<V.heap.size:=CF B s.size;have ay:Hid (GF base mb gm w V):=ax.out.trans (GF.of_fr s);obtain⟨ae,x⟩:=D _ _ _ _ l;have bv:=l.rs;have bz:=l.frz 4));go_end0;exact⟨rfl,bg,_,aa.out.1,a1.out.trans (GF.of_fr aa.out.2)⟩
end
end
def ZM(a:Af×Nat):Sy:=⟨a.1,0,0⟩
theorem AbP{a:Ao}{b:Af}{p:Nat}(h:(Be a true b p 0 0).2=none):(Be a true b p 0 0).1={a with here:=a.here++[⟨b,0,0⟩]}/\A9 a.here b=none:=by
 unfold Be at*;cases c:A9 (a.row true) b with
 |some d=>rw[c] at h;simp at h
 |none=>
  rw[c] at h;refine⟨?_,c⟩;simp[Ao.add]
theorem VF: ∀(b:List A8)(d:Ao),(AX d b).2=none-> ∀a c,b[a]? =some c->A9 (d.here++(b.take a).map ZM) c.1=none
 |[],d,_,a,c,h=>by simp at h
 |k::b,d,h,a,c,e=>by
  rw[AX] at h;obtain⟨j,f⟩:=Bq h;obtain⟨g,i⟩:=AbP j;cases a with
  |zero=>
   simp at e;subst e;simpa using i
  |succ a=>
   rw[g] at f;have:=VF b _ f a c (by simpa using e);simp only at this;rw[EN,Mm];rw[DO] at this;exact this
theorem XC: ∀(c b:List A8)(a:Ao),(AX a c).2=none->(AX (AX a c).1 b).2=none->(AX a (c++b)).2=none
 |[],b,a,_,d=>by rw[AX] at d;exact d
 |h::c,b,a,e,d=>by rw[AX] at e d;obtain⟨f,g⟩:=Bq e;show(AX a (h::(c++b))).2=none;rw[AX];simp only at d⊢;rw[f,XC c b _ g d];rfl
theorem AbY{b:Ao}{a:List A8}(g:b.here=[])(h:(AX b a).2=none):KI a:=by
 intro d l i;have c:=VF a b h d l i;rw[g,Hl] at c;have e:(a.take d).map ZM=((a.take d).map (·.1)).map fun k=>(⟨k,0,0⟩:Sy):=by rw[Mn];rfl
 rw[e] at c;have f:=P0.1 c;unfold Gr;rw[NP];intro m j;exact f m j
def NL:Gl->Prop
 |.proc r=>KI (r.params++r.locals)
 |.func r=>KI (r.params++r.locals)
 |_=>True
theorem VG{c:Ao}{kind:Nat}{r:Ro}(k:c.here=[])(h:(DJ c kind r).2=none):KI (r.params++r.locals):=by unfold DJ at h;simp only at h;obtain⟨e,_⟩:=Bq h;obtain⟨a,b⟩:=Bq e;unfold Fg at a b;simp only at a b;obtain⟨f,g⟩:=Bq a;obtain⟨i,_⟩:=Bq f;obtain⟨d,_⟩:=PF i;have j:=XC r.params r.locals _ g b;exact AbY (by rw[d];exact k) j
theorem VE: ∀(c:List Gl)(a:Ao),(AO a c).2=none->a.here=[]->a.inside=none-> ∀b∈c,NL b
 |[],a,_,_,_,b,f=>by simp at f
 |q::c,a,h,g,l,b,f=>by
  rw[AO] at h;obtain⟨e,k⟩:=Bq h;obtain⟨o,i,j,_,_⟩:=XG e g l;rcases C0.1 f with d|d
  ·subst d;cases b with
   |var m p=>trivial
   |arr m p s n=>trivial
   |proc r=>exact VG (kind:=2) g e
   |func r=>exact VG (kind:=3) g e
  ·exact VE c _ k i j b d
section
variable{base mb gm U D:Nat}{lm:Option Nat}{w Y V:World}{M:Ck}{v v':Value}{Q:AW}
theorem AeW{c:CG}(h:MK base mb gm U D none w (BN c) v){o:Gl}{E:Value}(L:Fu Q w E o)(N: ∀b,Q b->b<base/\b≠mb/\b≠gm){x:List Az}(I:J3 x o)(S:x.length<=601)(A:NL o)(K:U<maxLen)(s:(Dj c o).places<=1000000)(q:(Dj c o).words.length<=1000000):
 Ah 99 #[Al mb,E] w (Mh base mb gm (U+1) (Dj c o) w):=by
 have T:=h.lt;have e: ∀a,Ay w (w.alloc a):=fun a=>AP;have g: ∀a,BR Q w (w.alloc a):=fun a=>(GF.of_below (base:=base) (mb:=mb) (gm:=gm) (e a)).keepQ N;cases L with
 |var f p=>
  have z:f.size<=maxLen:=IN I.1;have d:=fun a=>Y5 (h.below (e a)) z p 1 K s;have t: ∀i,MK base mb gm (U+1) D none i ⟨(BN c).words,(BN c).places+1,{(BN c).E with g:=B9 (BN c).E.g f ((BN c).places,1)}⟩ v->MK base mb gm (U+1) D none i (BN (Dj c (.var f p))) v:=fun i h=>h;generalize(⟨(BN c).words,(BN c).places+1,{(BN c).E with g:=B9 (BN c).E.g f ((BN c).places,1)}⟩:Ck)=F at d t;clear s q A I;go_enter func99,ntmps99;go_wp2_with(go_at_call 129;refine(d _).mono ?_;rintro y V⟨rfl,n,m⟩);go_end0;exact⟨rfl,v,D,t _ n,(GF.of_below (e _)).trans (GF.of_fr m)⟩
 |arr f p size at_=>
  have z:f.size<=maxLen:=IN I.1;have d:=fun a=>Y5 (h.below (e a)) z p size K s;have t: ∀i,MK base mb gm (U+1) D none i ⟨(BN c).words,(BN c).places+size,{(BN c).E with g:=B9 (BN c).E.g f ((BN c).places,size)}⟩ v->MK base mb gm (U+1) D none i (BN (Dj c (.arr f p size at_))) v:=fun i h=>h;generalize(⟨(BN c).words,(BN c).places+size,{(BN c).E with g:=B9 (BN c).E.g f ((BN c).places,size)}⟩:Ck)=F at d t;clear s q A I;go_enter func99,ntmps99;go_wp2_with(go_at_call 129;refine(d _).mono ?_;rintro y V⟨rfl,n,m⟩);go_end0;exact⟨rfl,v,D,t _ n,(GF.of_below (e _)).trans (GF.of_fr m)⟩
 |proc r j k l u=>
  rename_i vp vl vb C;have J:r.params.length+r.locals.length<=x.length:=I.2;have d:=fun a=>AfW (h.below (e a)) r (j.keep (g a)) (k.keep (g a)) (l.keep (g a)) (u.keep (g a)) N A I.1 K (by omega) q;obtain⟨P,R,rfl⟩:=j.len;obtain⟨M,O,rfl⟩:=k.len;obtain⟨G,H,rfl⟩:=l.len;unfold Mh at d;clear s q A I j k l u J;go_enter func99,ntmps99;go_wp2_with(go_at_call 130;refine(d _).mono ?_;rintro y V⟨rfl,v1,B,n,m⟩);go_end0;exact⟨rfl,v1,B,n,(GF.of_below (e _)).trans m⟩
 |func r j k l u=>
  rename_i vp vl vb C;have J:r.params.length+r.locals.length<=x.length:=I.2;have d:=fun a=>AcH (h.below (e a)) r (j.keep (g a)) (k.keep (g a)) (l.keep (g a)) (u.keep (g a)) N A I.1 K (by omega) q;obtain⟨P,R,rfl⟩:=j.len;obtain⟨M,O,rfl⟩:=k.len;obtain⟨G,H,rfl⟩:=l.len;unfold Mh at d;clear s q A I j k l u J;go_enter func99,ntmps99;go_wp2_with(go_at_call 131;refine(d _).mono ?_;rintro y V⟨rfl,v1,B,n,m⟩);go_end0;exact⟨rfl,v1,B,n,(GF.of_below (e _)).trans m⟩
end
