/- The reference's walk: variables and arrays. The reference's  -/
import Derived.Test.YtklobognaldjpaaGreatCDcl5
import Derived.Deep.CutRange
import Derived.Deep.CutBlock
import Derived.Deep.DeepCutAuto
set_option maxRecDepth 1000000
set_option maxHeartbeats 8000000
namespace Go.Proofs.YtklobognaldjpaaGreat
open Go.Proofs.Tryz
open Go.RowKit
section
variable{U Y cap:Nat}{T:List Az}{m:Option Nm}{n:Nm}{w Z:World}{s:PS}
theorem Afv(h:RW U Y cap T m w s)(X:An T s)(c:s.code=0)(a:Int)(p:a=s.next)(k:TK)(b:Int)(f:k.r=b)(d:AN T k s=true):
 Ah 124 #[Al U,Aa a,Aa b] w fun n q=>n=.returned (Aa (a+1))/\q=w:=by
 have o:=h.fault;have u:=h.toks;have t:=h.size;have r:(s.next:Int)<T.length:=by unfold An at X;omega
 obtain⟨g,i,j,l⟩:=h.curCells X
 have e:(Ad T s).kind.r=b:=by have:(Ad T s).kind=k:=by simpa[AN] using d
                              rw[this];exact f
 subst p;rw[e] at g;rw[c] at o;clear i j l e f d c;go_enter func124,ntmps124;go_wp2;go_ret;exact⟨rfl,rfl⟩
theorem Ajc(h:RD U Y cap T Z m w s)(X:An T s)(c:s.code≠0)(d:Int):
 Ah 96 #[Al U,Aa d] w fun a e=>a=.returned (Aa ((T.length -1:Nat):Int))/\e=w:=by
 have f:=h.rw.fault;have g:((s.code:Int)==0)=false:=by simp;omega
 have b:=Lc h.rw X;clear c;go_enter func96,ntmps96;go_wp2;go_loopw [1,5,6,7,8,9,10] (fun _ _ _ _ _ _ _ wr=>wr=w) (fun _ _ _ _ _ _ _ _=>0)
 case atStart=>rfl
 case round=>
  obtain rfl:=hrel;go_wp2_with(go_at_call 126;refine Aq b ?_);go_ret;exact⟨rfl,rfl⟩
theorem NB{c:Af}{a:PS}(h:(Am T c a).code=0):a.code=0:=by
 unfold Am at h;split at h
 ·exact h
 ·unfold AI at h;simp only at h;split at h
  ·cases h
  ·rename_i b;exact absurd h b
theorem Ob(O:AR T){a:Af}(c:a.toList≠[]){s:PS}(d:Av T s)(b:s.code≠0):Am T a s=s:=(Dq O c d).2 b
section
variable(O:AR T)(V:Cj T)(h:RD U Y cap T Z m w s)(X:An T s)
include O V h X
theorem Ajd(bz:s.code=0)(b1:Cb (Ax m) s):
 Ah 96 #[Al U,Aa s.next] w (F9 U Y cap T Z m (EH T (Ax m) s).1 (EH T (Ax m) s).2):=by
 have cp:=h.rw.size;have cm: ∀w,(Instr.makeSlice 23 (Aa 1) (Aa 1)).run prog w=.ok (Ar w.heap.size 1 1) (w.alloc (.cells #[Aa 0] 3)):=fun _=>by kernel_rfl
 obtain⟨l,bb⟩: ∃l,l=ED T T.length (C2 T (Ax m) s).1 (C2 T (Ax m) s).2:=⟨_,rfl⟩;rw[show EH T (Ax m) s=(l.1,Am T AQ l.2) by unfold EH;rw[<-bb]];go_enter func96,ntmps96;go_wp2;go_loopw [1,5,6,7,8,9,10] (fun a4 _ _ _ _ _ _ wr=> ∃(a:PS)(c:Option Nm)(ah:Nat),a4=Aa (a.next:Int)/\RD U Y cap T Z c wr a/\c.isSome=m.isSome/\An T a/\a.code=0/\Cb (Ax c) a/\T.length<=a.next+ah/\Hid (ED T ah (C2 T (Ax c) a).1 (C2 T (Ax c) a).2=l)) (fun a4 _ _ _ _ _ _ _=>T.length -(intOf a4).toNat)
 case atStart=>exact⟨s,m,T.length,rfl,h,rfl,X,bz,b1,by omega,bb.symm⟩
 case round=>
  obtain⟨a,c,ah,rfl,aw,bk,H,C,bd,co,J⟩:=hrel;have cg:a.next<T.length:=H;have an:Av T a:=fun h=>absurd C h;have bf:=aw.rw.fault;rw[C] at bf;have bc:=RT O bd an H;have q:=KY O (Ax c) H an;have aa:=EY O H an;have ax:=LY O aw.rw H an a.next (fun _=>rfl) .name 1 rfl (.inl (by decide));rw[Qr] at ax
  have b6:(Ap T a).2.code=0->(Ap T a).2=Ab a:=fun h=>by
   unfold Ap at h⊢;split
   ·rfl
   ·rename_i b5;rw[Ae b5] at h;simp[AI,C] at h
  obtain⟨b,am⟩: ∃b,C2 T (Ax c) a=b:=⟨_,rfl⟩;rw[am] at J bc q;have aq:Hid (b.2.code≠0->l.1=b.1/\Am T AQ l.2=b.2):=fun be=>by rw[<-J.out,P2 (IT O q.stk be Ai)];exact⟨rfl,Ob O Ai q.stk be⟩
  unfold C2 at am;generalize(Ap T a).2=S at*;have ba:=fun W(bw:RD U Y cap T Z c W S)=>D3 O bw.rw aa.good aa.stk S.next (fun _=>rfl) BL (V _ (by decide));have b4:=fun a3=>AD O aa.good (f:=BL) a3 Ai;have b0:=fun a3=>Cp O aa.stk (f:=BL) Ai a3;generalize Aj T BL S=br at*;have N: ∀(W:World)(k i:Obj),Ay W ((W.alloc k).alloc i):=fun W k i=>AP.alloc (by simp) _;have L:Hid (_=b):=am;have ar:Hid (c.isSome=m.isSome):=bk;have ce:S.next<T.length:=aa.good;clear am bk;go_upto_if 25 with(first|(go_at_call 124;refine ax.mono ?_;rintro B t⟨rfl,ay,bh⟩;have o:=aw.step ay bh;have b9:=ay.lt)|(go_at_call 94;refine(ba _ (o.below (N t _ _))).mono ?_;rintro B bl⟨rfl,bv⟩;cases bv));clear ax ba
  go_cut [1,8,9] from 11 to 87 (fun ca _ _ bl=> ∃(af:Int)(e:Option Nm),ca=Aa af/\Hid (At b.2 af/\e.isSome=m.isSome/\Ax e=b.1/\RD U Y cap T Z e bl b.2))
  case first=>
   have ae: ∀n,c=some n->(n.E.row false).length<=600:=fun n ad=>by subst ad;exact AT (Cb.row (E:=n.E) bd false) (by omega)
   cases br with
   |false=>
    have F:=fun i=>PG (o.below (N t (.cells #[Aa 0] 3) i)) H false ⟨#[]⟩ 0 (fun _=>rfl) (some (Ac t.heap.size 0)) 1 1 0 (fun n ad _=>ae n ad);rw[show BM T (Ax c) false a 0 0 S=b from L.out] at F;unfold EP at F;have a5:Hid (At b.2 S.next/\ ∀I,Ax I=b.1->I.isSome=m.isSome):=by show _/\_;rw[<-L.out];exact⟨RJ (fun _=>rfl),fun I a1=>(P1 a1).trans ar.out⟩
    clear o ae;go_wp2_with(go_at_call 125;refine(F _).mono ?_;rintro B cc⟨rfl,e,x,j⟩);go_meet;exact⟨_,e,rfl,a5.out.1,a5.out.2 _ x,x,j⟩
   |true=>
    obtain rfl:=b6 (b0 rfl);have P:=b4 rfl;have ci:a.next+2<T.length:=P;have b8:Av T (Ab (Ab a)):=fun h=>absurd C h;have a8:(((Ab a).next:Nat):Int)+1=((Ab (Ab a)).next:Nat):=by show((a.next+1:Nat):Int)+1=((a.next+1+1:Nat):Int);omega
    have cb:=o.rw.fault;rw[show(Ab a).code=0 from C] at cb;cases Q:AN T .number (Ab (Ab a)) with
    |false=>
     have ac:=fun k i=>LY O (o.below (N t k i)).rw.adv P b8 _ (fun _=>a8) .number 2 rfl (.inl (by decide));have M:(BV T (Ab (Ab a))).2=AI T 4 (Ab (Ab a)):=by unfold BV;rw[Ae (by rw[Q];simp)]
     have au:(AI T 4 (Ab (Ab a))).code=4:=by simp[AI,Ab,C]
     have r:(AI T 4 (Ab (Ab a))).code≠0:=by rw[au];decide
     have y:b=(Ax c,AI T 4 (Ab (Ab a))):=by rw[<-L.out,Ag rfl,M,Vy r];show(Ax c,Am T Cn (Hf T (Ax c) (Ab (Ab a)) (AI T 4 (Ab (Ab a)))))=_;rw[(PU O (Ax c) _ (Gh O 4 _) (EL 4 _)).still r,Ob O Ai (EL 4 _) r]
     rw[Aft,M,<-show b.2=AI T 4 (Ab (Ab a)) from C4 Prod.snd y] at ac;have p:Hid (l.1=b.1/\Am T AQ l.2=b.2):=aq.out (by rw[y];exact r);have ai:Hid (Ax c=b.1):=by show _=_;rw[y]
     have D:b.2.code=4:=by rw[y];exact au
     clear y r au M Q ae L;have bm:Hid (∀k i,RD U Y cap T Z c ((t.alloc k).alloc i) (Ab a)):=fun k i=>o.below (N t k i);go_wp2_with(go_at_call 124;refine(ac _ _).mono ?_;rintro B ao⟨rfl,u,A⟩;have b2:=u.fault;rw[D] at b2;have bo:Hid _:=(bm.out _ _).step u A);go_ret;unfold F9;rw[p.out.1,p.out.2];exact⟨_,c,rfl,fun _=>rfl,ar.out,fun _=>ai.out,bo.out⟩
    |true=>
     have bg:=EZ O P Q (by decide);have ch:a.next+3<T.length:=bg;have b7:Av T (Ab (Ab (Ab a))):=fun h=>absurd C h;have M:(BV T (Ab (Ab a))).2=Ab (Ab (Ab a)):=by unfold BV;rw[Ag Q]
     have ac:=fun k i=>Afv (o.below (N t k i)).rw.adv P C _ a8 .number 2 rfl Q;obtain⟨d,aj⟩: ∃d,BM T (Ax c) false a 1 0 (Ab (Ab (Ab a)))=d:=⟨_,rfl⟩;have y:=L.out;rw[Ag rfl,M,aj] at y;have ak:=Gg O (Ax c) false a 1 0 bg b7;have z:At (BM T (Ax c) false a 1 0 (Ab (Ab (Ab a)))).2 (((Ab a).next:Int)+1+1):=RJ (fun _=>by show((a.next+1:Nat):Int)+1+1=((a.next+1+1+1:Nat):Int);omega);have HS:Hid (∀I,Ax I=(BM T (Ax c) false a 1 0 (Ab (Ab (Ab a)))).1->I.isSome=c.isSome):=fun I a1=>P1 a1;obtain⟨g,a2⟩: ∃g,g=(Ad T (Ab (Ab a))).val:=⟨_,rfl⟩;have cd:t.cell? (Ac Y ((a.next+1+1)*4+1))=some (Aa (g:Nat)):=by rw[a2];exact(o.rw.adv.curCells P).2.1
     have cr:=o.rw.toks;have cq:=o.rw.tlt;have cn:=XL (min g 20) (Nat.min_le_right _ _);have cl:min (g:Int) 20=((min g 20:Nat):Int):=by omega
     have F:=fun k i bq=>PG (((o.at (a.next+3)).below (N t k i)).below ((Below.refl _ ((t.alloc k).alloc i)).alloc (AA _) bq)) H false ⟨#[]⟩ 1 (fun h=>by cases h) (some (Ac (t.heap.size+2) 0)) (min g 20) (min g 20) 0 (fun n ad _=>ae n ad);rw[show BM T (Ax c) false a 1 0 ({Ab a with next:=a.next+3}:PS)=d from aj] at F;unfold EP at F;rw[aj] at ak z HS;have bt:(((Ab a).next:Nat):Int)=(a.next:Int)+1:=by show((a.next+1:Nat):Int)=_;omega
     rw[bt] at ac z;have a6:Hid (g=(Ad T (Ab (Ab a))).val):=a2;have a7:Hid _:=y;clear y aj M Q ae L o a2;go_upto_region 14 with(first|(go_at_call 124;refine Aq (ac _ _) ?_)|(go_at_call 125;refine(F _ _ _).mono ?_;rintro B cc⟨rfl,e,x,j⟩));have bj:=j.rw.mode_;have G:=HS.out _ x;have K:Hid (Ax e=d.1/\e.isSome=m.isSome):=⟨x,G.trans ar.out⟩;by_cases v:c.isSome=true/\(g<1\/20<g)
     ·obtain⟨R,v⟩:=v
      have bi:CU e=1:=by
       cases e with
       |none=>rw[R] at G;cases G
       |some _=>rfl
      rw[bi] at bj;have r:(AI T 3 {d.2 with next:=a.next+2}).code≠0:=by by_cases f:d.2.code=0<;>simp[AI,f]
      have D:Hf T (Ax c) (Ab (Ab a)) d.2=AI T 3 {d.2 with next:=a.next+2}:=by
       cases c with
       |none=>cases R
       |some n=>
        show(if d.2.code=0/\((Ad T (Ab (Ab a))).val<1\/20<(Ad T (Ab (Ab a))).val) then stop T 3 (Ad T (Ab (Ab a))).pos else d.2)=_;rw[<-a6.out];by_cases f:d.2.code=0
        ·rw[Ag ⟨f,v⟩];simp[AI,stop,f];rfl
        ·rw[Ae (fun h=>f h.1)];simp only[AI,Ae f];rw[<-ak.stk f]
      have E:b=(d.1,AI T 3 {d.2 with next:=a.next+2}):=by rw[<-a7.out,D];exact Prod.ext rfl (Ob O Ai (EL 3 _) r)
      have az:=H8 (j.rw.at (a.next+2)) (s:={d.2 with next:=a.next+2}) P 3 ((a.next:Int)+1+1) (fun _=>by show _=((a.next+2:Nat):Int);omega);rw[<-show b.2=AI T 3 {d.2 with next:=a.next+2} from C4 Prod.snd E] at az r;have p:Hid (l.1=d.1/\Am T AQ l.2=b.2):=⟨(aq.out r).1.trans (by rw[E]),(aq.out r).2⟩;clear r D E bi R G;rcases v with v|v
      ·have a9:(g:Int)<1:=by omega
       go_wp2_with(go_at_call 98;refine az.mono ?_;rintro B ao⟨rfl,u,A⟩);go_ret;unfold F9;rw[p.out.1,p.out.2];exact⟨_,e,rfl,fun _=>rfl,K.out.2,fun _=>K.out.1,j.step u A⟩
      ·have a9: ¬(g:Int)<1:=by omega
       have bu:(g:Int)>20:=by omega
       go_wp2_with(go_at_call 98;refine az.mono ?_;rintro B ao⟨rfl,u,A⟩);go_ret;unfold F9;rw[p.out.1,p.out.2];exact⟨_,e,rfl,fun _=>rfl,K.out.2,fun _=>K.out.1,j.step u A⟩
     ·have D:Hf T (Ax c) (Ab (Ab a)) d.2=d.2:=by
       cases c with
       |none=>rfl
       |some n=>show(if d.2.code=0/\((Ad T (Ab (Ab a))).val<1\/20<(Ad T (Ab (Ab a))).val) then stop T 3 (Ad T (Ab (Ab a))).pos else d.2)=_;rw[<-a6.out,Ae (fun h=>v ⟨rfl,h.2⟩)]
      have E:b=(d.1,Am T Cn d.2):=by rw[<-a7.out,D]
      have ab:=FD O j.rw ak.good ak.stk _ z Cn (V _ (by decide));rw[<-show b.2=Am T Cn d.2 from C4 Prod.snd E] at ab;have p:Hid (b.1=d.1):=by show _=_;rw[E]
      have bx:CU e=0\/(CU e=1/\ ¬(g:Int)<1/\ ¬(g:Int)>20):=by
       cases e with
       |none=>exact .inl rfl
       |some _=>exact .inr ⟨rfl,fun h=>v ⟨G.symm,.inl (by omega)⟩,fun h=>v ⟨G.symm,.inr (by omega)⟩⟩
      clear v D E G;rcases bx with av|⟨av,a9,bu⟩
      all_goals
       rw[av] at bj;clear av;go_wp2_with(go_at_call 123;refine ab.mono ?_;rintro B ao⟨rfl,u,A⟩);go_meet;exact⟨_,e,rfl,fun _=>rfl,K.out.2,K.out.1.trans p.out.symm,j.step u A⟩
  case rest=>
   obtain⟨af,e,rfl,ap⟩:=hcut;clear o ay bh b9 bf;obtain⟨z,R,x,j⟩:=ap.out;have cf:=j.rw.fault;have al:=D3 O j.rw q.good q.stk af z Bx (V _ (by decide));have ab:=FD O j.rw q.good q.stk af z AQ (V _ (by decide));have cj:b.2.next<T.length:=q.good;have ck:=q.le;cases f:Aj T Bx b.2 with
   |true=>
    rw[f] at al;have a0:=Cp O q.stk Ai f;obtain rfl:=z a0;have b3:=AD O q.good f Ai;obtain⟨ag,rfl⟩: ∃ag,ah=ag+1:=⟨ah -1,by omega⟩;have bp:Hid (ED T ag (C2 T (Ax e) (Ab b.2)).1 (C2 T (Ax e) (Ab b.2)).2=l):=by show _=_;rw[x,<-J.out,Adm f]
    have bn:Hid (Cb (Ax e) (Ab b.2)):=by show Cb _ _;rw[x];exact(bc a0).le (Ic _)
    clear J f z ab ap;go_wp2_with(go_at_call 94;refine Aq al ?_)
    go_roundw
    case rel=>exact⟨Ab b.2,e,ag,by show _=Value.int .i64 ((b.2.next+1:Nat):Int);go_num,j.at _,R,b3,a0,bn.out,by show T.length<=b.2.next+1+ag;omega,bp⟩
    case measure=>simp[intOf];omega
   |false=>
    rw[f] at al;have p:Hid (l=b):=by show _=_;rw[<-J.out,P2 f]
    have ai:Hid (Ax e=b.1/\e.isSome=m.isSome):=⟨x,R⟩;clear J f z ap x;go_wp2_with(first|(go_at_call 94;refine Aq al ?_)|(go_at_call 123;refine ab.mono ?_;rintro B ao⟨rfl,u,A⟩));go_ret;unfold F9;rw[p.out];exact⟨_,e,rfl,fun _=>rfl,ai.out.2,fun _=>ai.out.1,j.step u A⟩
theorem Ajb(g:Av T s)(c:Int)(f:At s c)(e:s.code=0->Cb (Ax m) s):
 Ah 96 #[Al U,Aa c] w (F9 U Y cap T Z m (EH T (Ax m) s).1 (EH T (Ax m) s).2):=by
 by_cases a:s.code=0
 ·obtain rfl:=f a;exact Ajd O V h X a (e a)
 ·refine(Ajc h X a c).mono ?_;rintro i j⟨rfl,rfl⟩;have d:=(Ol O (Ax m) X g).still a;unfold F9;rw[d];exact⟨_,m,rfl,fun b=>absurd b a,rfl,fun b=>absurd b a,h⟩
end
variable{d:Int}{k:Nat}
theorem ZA(h:RW U Y cap T m w s)(X:An T s)(a:s.code≠0)(f:Int)(g:Bool):
 Ah 151 #[Al U,Aa f,Aa d,.bool g] w (Du U Y cap T m s w):=by
 have i:=h.fault;have j:((s.code:Int) !=0)=true:=by simp;omega
 have e:=Lc h X;have c:Hid (∀b,At s b):=fun b h=>absurd h a;clear a;go_enter func151,ntmps151;go_wp2_with(go_at_call 126;refine Aq e ?_);go_ret;exact⟨_,rfl,c.out _,h,As.refl _ _⟩
theorem AhK(h:RW U Y cap T m w s)(X:An T s)(c:s.code=0)(e:d=15)(i:Bool):
 Ah 151 #[Al U,Aa s.next,Aa d,.bool i] w (Du U Y cap T m (AI T 5 s) w):=by
 have f:=h.fault;rw[c] at f;have b:=H8 h X 5 s.next (fun _=>rfl);subst e;go_enter func151,ntmps151;go_wp2_with(go_at_call 98;refine b.mono ?_;rintro j k⟨rfl,a,g⟩);go_ret;exact⟨_,rfl,FW _,a,g⟩
section
variable(O:AR T)(I:E8 U Y cap T m 177 (d+1) (BA T (Ax m) k))
include O I
theorem AhN(V:Cj T)
 (n:0<=d)(o:d<=14)(h:RW U Y cap T m w s)(X:An T s)(e:s.code=0)(f:Bool)(a:AN T .name s=true):
 Ah 151 #[Al U,Aa s.next,Aa d,.bool f] w (Du U Y cap T m (AL T (Ax m) (k+1) s).2 w):=by
 have p:=h.fault;rw[e] at p;have v:=h.size;have x:=h.toks;have t:s.next<T.length:=X;have u:(s.next:Int)<T.length:=by omega
 obtain⟨b,_,_,_⟩:=h.curCells X;have c:(Ad T s).kind=.name:=by simpa[AN] using a
 rw[c] at b;simp only[TK.r] at b;have g:Hid ((AL T (Ax m) (k+1) s).2=(DE T (Ax m) (BA T (Ax m) k) s).2):=by show _=_;rw[AL,Ag a]
 have i:=Afe O I (Hw O (Ax m) k) (Hy O (Ax m) k) V n o h X e a f;clear a c;go_enter func151,ntmps151;go_wp2_with(go_at_call 173;refine i.mono ?_;rintro r z⟨y,rfl,l,j,q⟩);go_ret;unfold Du;rw[g.out];exact⟨_,rfl,l,j,q⟩
theorem AhO(v:Ls U Y cap T m 151 (d+1) (fun s=>(AL T (Ax m) k s).2))(V:Cj T)
 (B:0<=d)(C:d<=14)(h:RW U Y cap T m w s)(X:An T s)(j:s.code=0)(o:Bool)(y:AN T .name s=false):
 Ah 151 #[Al U,Aa s.next,Aa d,.bool o] w (Du U Y cap T m (AL T (Ax m) (k+1) s).2 w):=by
 have ae:=h.fault;rw[j] at ae;have ar:=h.size;have au:=h.toks;have ap:s.next<T.length:=X;have aq:(s.next:Int)<T.length:=by omega
 have ai:Av T s:=fun h=>absurd j h;have D:At (Ab s) ((s.next:Int)+1):=fun _=>by show _=((s.next+1:Nat):Int);omega
 have z:Av T (Ab s):=A4 j;obtain⟨an,_,_,_⟩:=h.curCells X;have ao:((Ad T s).kind.r==1)=false:=by rw[Pc];simpa[AN] using y
 have i:=fun n x=>D3 O h X ai s.next (FW _) (bs n) (V n x);have E:=i [105,102] (by decide);have F:=i [119,104,105,108,101] (by decide);have G:=i [98,101,103,105,110] (by decide);have H:=i [119,114,105,116,101] (by decide);have J:=i [114,101,97,100] (by decide);have l:=fun n(x:n≠[]) ak=>AD O X (f:=bs n) ak (I6 _ x);obtain⟨t,q⟩: ∃t,AL T (Ax m) (k+1) s=t:=⟨_,rfl⟩;rw[q];rw[AL,Ae (by rw[y];simp)] at q;have S:=l [105,102] (by simp);have W:=l [119,104,105,108,101] (by simp);have A:=l [98,101,103,105,110] (by simp);have Z:=l [119,114,105,116,101] (by simp);have aa:=l [114,101,97,100] (by simp);generalize Aj T IF s=M at*;generalize Aj T IH s=N at*;generalize Aj T Bc s=P at*;generalize Aj T II s=Q at*;generalize Aj T IG s=R at*;generalize(Ad T s).kind.r=av at*;have g:Hid (_=t):=q;clear q y i l;go_enter func151,ntmps151;go_upto_region 8 with(go_at_call 94;refine Aq E ?_);go_upto_region 9 with(go_at_call 94;refine Aq F ?_);go_upto_region 10 with(go_at_call 94;refine Aq G ?_);go_upto_region 11 with(go_at_call 94;refine Aq H ?_);go_upto_region 12 with(go_at_call 94;refine Aq J ?_);clear E F G H J;cases M with
 |true=>
  have b:=Adc O I (Hw O (Ax m) k) (Hy O (Ax m) k) v (Gp O (Ax m) k) (Ev O (Ax m) k) V B C h j (S rfl) o;go_wp2_with(go_at_call 174;refine b.mono ?_;rintro f p⟨r,rfl,e,a,c⟩);go_ret;unfold Du;rw[<-g.out];exact⟨_,rfl,e,a,c⟩
 |false=>
  cases N with
  |true=>
   have b:=Ajp O I (Hw O (Ax m) k) (Hy O (Ax m) k) v V B C h j (W rfl) o;go_wp2_with(go_at_call 175;refine b.mono ?_;rintro f p⟨r,rfl,e,a,c⟩);go_ret;unfold Du;rw[<-g.out];exact⟨_,rfl,e,a,c⟩
  |false=>
   cases P with
   |true=>
    have b:=Xu O v (Gp O (Ax m) k) (Ev O (Ax m) k) V w (Ab s) ((s.next:Int)+1) o (h.at _) (A rfl) z D;have ah:=JQ O (Gp O (Ax m) k) _ (A rfl);have aj:=JZ O (Ev O (Ax m) k) _ z;have ab:=fun L K(af:At (AK T (AL T (Ax m) k) (Ab s)).2 K)(ac:RW U Y cap T m L (AK T (AL T (Ax m) k) (Ab s)).2)=>FD O ac ah.1 aj.1 K af By (V _ (by decide));go_wp2_with(first|(go_at_call 122;refine b.mono ?_;rintro f p⟨r,rfl,e,a,c⟩)|(go_at_call 123;refine(ab _ _ e a).mono ?_;rintro f ax⟨rfl,ad,ag⟩));go_ret;unfold Du;rw[<-g.out];exact⟨_,rfl,FW _,ad,c.trans ag⟩
   |false=>
    cases Q with
    |true=>
     have b:=fun al=>I w (Ab s) ((s.next:Int)+1) al (h.at _) (Z rfl) z D;go_wp2_with(first|(go_at_call 176;refine(J1 h _).mono ?_;rintro f am⟨rfl,u⟩;cases u)|(go_at_call 177;refine(b _).mono ?_;rintro f p⟨aw,r,rfl,e,a,c⟩)|(go_at_call 178;refine(Ht a _).mono ?_;rintro f am⟨rfl,u⟩;cases u));go_ret;unfold Du;rw[<-g.out];exact⟨_,rfl,e.1,a,c⟩
    |false=>
     cases R with
     |true=>
      have b:=Agj O h j (aa rfl) o;go_wp2_with(go_at_call 180;refine b.mono ?_;rintro f p⟨r,rfl,e,a,c⟩);go_ret;unfold Du;rw[<-g.out];exact⟨_,rfl,e,a,c⟩
     |false=>
      have b:=H8 h X 4 s.next (FW _);go_wp2_with(go_at_call 98;refine b.mono ?_;rintro f p⟨rfl,a,c⟩);go_ret;unfold Du;rw[<-g.out];exact⟨_,rfl,FW _,a,c⟩
end
theorem ZB(O:AR T)(V:Cj T): ∀(k:Nat)(d:Int),d+k=15->0<=d->Ls U Y cap T m 151 d (fun s=>(AL T (Ax m) k s).2)
 |0,d,j,c=>fun w s g b h X f e=>by
  by_cases a:s.code=0
  ·obtain rfl:=e a;exact AhK h X a (by omega) b
  ·rw[show(fun s=>(AL T (Ax m) 0 s).2) s=s from(Ev O (Ax m) 0 s f).2 a];exact ZA h X a g b
 |k+1,d,j,c=>fun w s g b h X f e=>by
  have l:=ZB O V k (d+1) (by omega) (by omega);have I:E8 U Y cap T m 177 (d+1) (BA T (Ax m) k):=Agp O V k (d+1) (by omega) (by omega);by_cases a:s.code=0
  ·obtain rfl:=e a;cases i:AN T .name s with
   |true=>exact AhN O I V c (by omega) h X a b i
   |false=>exact AhO O I l V c (by omega) h X a b i
  ·rw[show(fun s=>(AL T (Ax m) (k+1) s).2) s=s from(Ev O (Ax m) (k+1) s f).2 a];exact ZA h X a g b
theorem Xv(O:AR T)(V:Cj T):Ls U Y cap T m 122 1 (fun s=>(AK T (AL T (Ax m) 14) s).2):=
 Xu O (ZB O V 14 1 (by omega) (by omega)) (Gp O (Ax m) 14) (Ev O (Ax m) 14) V
theorem Afu(h:RW U Y cap T m w s)(X:An T s)(j:Av T s)(a:s.code≠0)(d k:Int):
 Ah 124 #[Al U,Aa d,Aa k] w fun b e=>b=.returned (Aa (s.next:Int))/\RW U Y cap T m e s/\As U w e:=by
 have l:=h.fault;have c:=H8 h X 4 d (fun f=>absurd f a);rw[GM 4 j a] at c;have n:((s.code:Int) !=0)=true:=by simp;omega
 clear a;go_enter func124,ntmps124;go_wp2_with(go_at_call 98;refine c.mono ?_;rintro b o⟨rfl,g,i⟩);go_ret;exact⟨rfl,g,i⟩
def Lu(a b:PS):Prop:=a.code=b.code/\a.at_=b.at_
theorem AfN(O:AR T)(h:RW U Y cap T m w s)(X:An T s)(f:Av T s):
 Ah 124 #[Al U,Aa (s.next:Int),Aa 4] w fun b a=>(∃i:Int,b=.returned (Aa i))/\ ∃g,RW U Y cap T m a g/\Lu g (Dm T s)/\As U w a:=by
 by_cases d:s.code=0
 ·refine(LY O h X f s.next (fun _=>rfl) .over 4 rfl (.inr d)).mono ?_;rintro b a⟨rfl,c,e⟩;refine⟨⟨_,rfl⟩,_,c,?_,e⟩;unfold Hd Dm;split
  ·exact⟨rfl,rfl⟩
  ·exact⟨rfl,rfl⟩
 ·refine(Afu h X f d s.next 4).mono ?_;rintro b a⟨rfl,c,e⟩;refine⟨⟨_,rfl⟩,s,c,?_,e⟩;unfold Dm;split
  ·exact⟨rfl,rfl⟩
  ·rw[GM 4 f d];exact⟨rfl,rfl⟩
theorem Agm(O:AR T)(V:Cj T)(h:RW U Y cap T m w s)(X:An T s)(o:Av T s)(f:Int)(B:At s f):
 Ah 95 #[Al U,Aa f] w fun b r=>b=.returned A6/\ ∃q,RW U Y cap T m r q/\Lu q (Dm T (Am T DR (Am T By (AK T (AL T (Ax m) 14) s).2)))/\As U w r:=by
 have k:=Xv (m:=m) O V w s f true h X o B;have d:=GN O (Ax m) 14 X o;have t:Ah 122 #[Al U,Aa f,Aa 1,.bool true] w (Du U Y cap T m (AK T (AL T (Ax m) 14) s).2 w):=k;clear k;have e:=B4 O (f:=By) Ai d.good d.stk;generalize(AK T (AL T (Ax m) 14) s).2=g at*;have u:=fun a p(C:At g p)(c:RW U Y cap T m a g)=>FD O c d.good d.stk p C By (V _ (by decide));generalize Am T By g=i at*;have v:=fun a(c:RW U Y cap T m a i)=>FD O c e.good e.stk i.next (fun _=>rfl) DR (V _ (by decide));have j:=B4 O (f:=DR) Ai e.good e.stk;generalize Am T DR i=I at*;have x:=fun a(c:RW U Y cap T m a I)=>AfN O c j.good j.stk;have K:=XQ m;go_enter func95,ntmps95;go_wp2_with(first|(go_at_call 122;refine t.mono ?_;rintro b P⟨M,rfl,A,l,D⟩;have L:=l.mode_)|(go_at_call 123;have _q:=n;refine(v _ n).mono ?_;rintro b R⟨rfl,y,F⟩)|(go_at_call 123;refine(u _ _ A l).mono ?_;rintro b Q⟨rfl,n,E⟩)|(go_at_call 124;refine(x _ y).mono ?_;rintro b S⟨⟨N,rfl⟩,J,z,H,G⟩));go_end0;exact⟨rfl,J,z,H,((D.trans E).trans F).trans G⟩
def Rz(U Y cap:Nat)(T:List Az)(Z:World):Prop:=
 ∀(m:Option Nm)(w:World)(s:PS)(a:Int)(kind:Nat),RD U Y cap T Z m w s->An T s->Av T s->At s a->(s.code=0->Cb (Ax m) s)->
  Ah 97 #[Al U,Aa a,Aa kind] w (F9 U Y cap T Z m (CO T (Ax m) kind s).1 (CO T (Ax m) kind s).2)
def Fe(T:List Az)(n:Nat)(a:Option Ao)(s:PS):PS:=Dm T (Am T DR (Jg T (D6 T n a s).1 (D6 T n a s).2))
theorem AeL(O:AR T)(c:Option Ao){s:PS}(X:An T s)(f:Av T s)(e:s.code≠0):Jg T c s=s:=by have a:=B4 O (f:=Bc) Ai X f;have b:=a.trans (GN O c 14 a.good a.stk);have d:=b.trans (B4 O (f:=By) Ai b.good b.stk);exact d.still e
theorem Acz(O:AR T)(n:Nat)(c:Option Ao){s:PS}(X:An T s)(b:Av T s)(a:s.code≠0):Lu s (Fe T n c s):=by
 unfold Fe;rw[SC O b a];show Lu s (Dm T (Am T DR (Jg T c s)));rw[AeL O c X b a,Ob O Ai b a];unfold Dm;split
 ·exact⟨rfl,rfl⟩
 ·rw[GM 4 b a];exact⟨rfl,rfl⟩
theorem Acx(O:AR T)(n:Nat)(a:Option Ao){s:PS}(j:s.code=0)(f:Aj T CJ s=false)(g:Aj T F0 s=false)(h:Aj T GO s=false)(i:Aj T Bc s=false):
 Fe T n a (AI T 4 s)=Fe T n a s:=by
 have b:(AI T 4 s).code≠0:=by simp[AI,j]
 have c:D6 T n a s=(a,s):=by
  cases n with
  |zero=>rfl
  |succ n=>rw[D6,Ae (by rw[f];simp),Ae (by rw[g];simp),Ae (by rw[h];simp)]
 have d:Am T Bc s=AI T 4 s:=by unfold Am;rw[Ae (by rw[i];simp)]
 have e:Jg T a s=Jg T a (AI T 4 s):=by unfold Jg;rw[d,Ob O Ai (EL 4 s) b]
 unfold Fe;rw[SC O (EL 4 s) b,c,e]
theorem Acy{n:Nat}{a:Option Ao}{s:PS}(b:Aj T Bc s=true):Fe T n a s=Dm T (Am T DR (Am T By (AK T (AL T a 14) (Ab s)).2)):=by
 have c:D6 T n a s=(a,s):=by
  cases n with
  |zero=>rfl
  |succ n=>rw[D6,Ae (by rw[DU (b:=[118,97,114]) b (by decide)];simp),Ae (by rw[DU (b:=[112,114,111,99]) b (by decide)];simp),Ae (by rw[DU (b:=[102,117,110,99]) b (by decide)];simp)]
 have d:Am T Bc s=Ab s:=by unfold Am;rw[Ag b]
 unfold Fe Jg;rw[c];show Dm T (Am T DR (Am T By (AK T (AL T a 14) (Am T Bc s)).2))=_;rw[d]
theorem AcC{n:Nat}{a:Option Ao}{s:PS}(b:Aj T CJ s=true):Fe T (n+1) a s=Fe T n (EH T a (Ab s)).1 (EH T a (Ab s)).2:=by unfold Fe;rw[D6,Ag b]
theorem AcB{n:Nat}{a:Option Ao}{s:PS}(b:Aj T F0 s=true):Fe T (n+1) a s=Fe T n (CO T a 2 (Ab s)).1 (CO T a 2 (Ab s)).2:=by unfold Fe;rw[D6,Ae (by rw[DU (b:=[118,97,114]) b (by decide)];simp),Ag b]
theorem AcA{n:Nat}{a:Option Ao}{s:PS}(b:Aj T GO s=true):Fe T (n+1) a s=Fe T n (CO T a 3 (Ab s)).1 (CO T a 3 (Ab s)).2:=by unfold Fe;rw[D6,Ae (by rw[DU (b:=[118,97,114]) b (by decide)];simp),Ae (by rw[DU (b:=[112,114,111,99]) b (by decide)];simp),Ag b]
def Sl(w:World)(U:Nat):Int:=match w.cell? (Ac U 2) with
 |some (.int _ a)=>a
 |_=>1
theorem VS{w:World}{U:Nat}{k:IntKind}{a:Int}(h:w.cell? (Ac U 2)=some (.int k a)):Sl w U=a:=by unfold Sl;rw[h]
def P9(n:Nat)(w:World)(U:Nat)(a:Value):Nat:=if Sl w U=0 then n+1 -(intOf a).toNat else 0
theorem Qa{w d:World}{b i':Nat}{c:Int}(e:w.cell? (Ac U 2)=some (Aa 0))(j:b<T.length){a:Nat}(f:d.cell? (Ac U 2)=some (Aa (a:Int)))(h:a=0->c=i'/\b<i'):
 P9 T.length d U (Aa c)<P9 T.length w U (Aa (b:Int)):=by
 unfold P9;rw[VS e,VS f,Ag rfl];by_cases g:a=0
 ·obtain⟨rfl,i⟩:=h g;rw[Ag (by omega)];simp[intOf];omega
 ·rw[Ae (by omega)];simp[intOf];omega
end
