/- The reference's walk as it runs: a call. The reference's wal -/
import Derived.Test.YtklobognaldjpaaGreatCRx25
import Derived.Deep.DeepCutAuto
set_option maxRecDepth 1000000
set_option maxHeartbeats 8000000
namespace Go.Proofs.YtklobognaldjpaaGreat
open Go.Proofs.Tryz
open Go.RowKit
def FL(call:Dr)(a c:Bool)(d:Af)(b:List Ex)(S:RS):Int×RS:=
 if a&& !(Dn call a b S).2.stop.isSome then call c d (Dn call a b S).1 (Dn call a b S).2 else(0,(Dn call a b S).2)
section
variable{E:Ao}{L:Prop}{O Z cap B:Nat}{T:List Az}{c:Nat}{U:Int}{I:Value}{G:List GC}{X:Value}{H:List GC}{call:Dr}{d:Int}{w K:World}{N J:Value}{S:RS}{V:AU}
theorem RA.besides(b:RA O Z cap B T c U I G X H w N J S)(L:w.heap.size<=K.heap.size){q:AW}(i: ∀a,a<w.heap.size-> ¬q a->K.heap[a]? =w.heap[a]?)(j: ∀a,q a->O<a/\ ∀Q∈BO I X J G H,Q.ownBlock≠some a):RA O Z cap B T c U I G X H K N J S:=by
 have E:=b.lt;have t:=b.tlt;have g: ∀{f:TypeId}{x:Nat}{k:Value}{v:Nat}{y:List Value},w.ownsRow (O+1) f x k v y->k∈BO I X J G H->K.ownsRow (O+1) f x k v y:=fun s F=>Cq s fun a f=>i a (s.lt a f).2 fun h=>(j a h).2 _ F f;have u:=i O E fun f=>by have:=(j O f).1;omega
 have r: ∀a,a<O->K.heap[a]? =w.heap[a]? :=fun a f=>i a (by omega) fun h=>by have:=(j a h).1;omega
 have A: ∀{d:GC},d∈G->d.vv∈BO I X J G H:=fun e=>by unfold BO;simp only[BD,CD];exact .inl (.inl (.inr ⟨_,e,rfl⟩))
 have C: ∀{d:GC},d∈H->d.vv∈BO I X J G H:=fun e=>by unfold BO;simp only[BD,CD];exact .inl (.inr ⟨_,e,rfl⟩)
 have z: ∀{d:GC},d∈G->d.cv∈BO I X J G H:=fun e=>by unfold BO;simp only[BD,CD];exact .inr ⟨_,e,rfl⟩
 refine⟨b.cel.block u,fun o=>by rw[World.frozen?_of_block (w:=w) u];exact b.frz o,fun M P D=>by rw[World.cell?_of_block (w:=w) (r Z t)];exact b.tok M P D,t,b.siz,b.bud,b.use,⟨b.inp.1.kept L fun a f=>r a (b.inp.2 a f),b.inp.2⟩,g b.gro (by unfold BO;simp),g b.hro (by unfold BO;simp),⟨b.gv.1,fun a d e=> ?_⟩,⟨b.hv.1,fun a d e=> ?_⟩,g b.oro (by unfold BO;simp),b.apt,b.bnd,b.nd,fun d e=>g (b.cvr d e) (z e),b.cpi⟩
 ·obtain⟨l,m,n,p⟩:=b.gv.2 a d e;exact⟨l,m,n,g p (A (Ct e))⟩
 ·obtain⟨l,m,n,p⟩:=b.hv.2 a d e;exact⟨l,m,n,g p (C (Ct e))⟩
theorem LK{b:Af}{s:PS}(a:Aj T b s=true)(c:b.toList≠[]):An T s:=by
 by_cases d:s.next<T.length
 ·exact d
 ·unfold Aj Ad at a;rw[Dg,NQ (by omega)] at a;exact absurd ((eq_of_beq a).symm.trans (by rw[EU];rfl)) c
def AaE(O:Nat)(call:Dr)(c:Bool)(b:List Ex)(S:RS)(d:Value)(a:List Int)(w:World):Prop:=
 (∃base,w.ownsRow base 3 1 d a.length (a.map (.int .i64))/\d.ownBlock≠some O)/\(∀e∈a,VB e)/\a.length=b.length/\(c=true->(Dn call c b S).2.stop=none->a=(Dn call c b S).1)
theorem RQ(cd:AR T)(bo:Cj T)(bk:XK E L O Z cap B T c U I G X H call 177 d V)(db:AM T V)(dc:SM T V)(n:RA O Z cap B T c U I G X H w N J S){s:PS}(bl:s.code=0)(bq:An T (Ab (Ab s)))(g:Bool){a:Nat}{o:GC}(bc:J7 G H (Ad T s).text a o)(ds:o.kind=2\/o.kind=3)(ax:(Ba T V (Ab (Ab s))).2.code=0)(br:Cy E (Ba T V (Ab (Ab s))).1=none)(bj:g=true->L)
 {bd:List Int->RS->Int×RS}(dh:30<=c-> ∀f u,call (decide (o.kind=3)) (Ad T s).text f u=(0,u.fail 13))
 (di:c<30->L-> ∀f u,u.stop=none->call (decide (o.kind=3)) (Ad T s).text f u=if decide (o.kind=3)&&(u.unit B).stop.isSome then(0,u.unit B) else bd f (if o.kind=3 then u.unit B else u))
 (bn:c<30->L-> ∀(D:World)(q k bw:Value)(u:RS)(f:List Int),RA O Z cap B T c U I G X H D q k u->(∀p∈f,VB p)->(∃base,D.ownsRow base 3 1 bw f.length (f.map (.int .i64))/\bw.ownBlock≠some O)->Ah 210 #[Al O,Aa (a:Nat),bw] D fun b K=> ∃p:Int,b=.returned (Aa p)/\VB p/\p=(bd f u).1/\Hid (∃d5 cz,RA O Z cap B T c U I G X H K d5 cz (bd f u).2/\Kf O G H k cz D K)):
 Ah 197 #[Al O,Aa (s.next:Nat),Aa d,.bool g,Aa (o.kind:Nat)] w fun b K=> ∃p:Int,b=.returned (.tuple #[Aa p,Aa ((Ba T V (Ab (Ab s))).2.next:Nat)])/\VB p/\(g=true->(FL call g (decide (o.kind=3)) (Ad T s).text (Ba T V (Ab (Ab s))).1 S).2.stop=none->p=(FL call g (decide (o.kind=3)) (Ad T s).text (Ba T V (Ab (Ab s))).1 S).1)/\Hid (∃q k,RA O Z cap B T c U I G X H K q k (FL call g (decide (o.kind=3)) (Ad T s).text (Ba T V (Ab (Ab s))).1 S).2/\Kf O G H J k w K):=by
 have en:=n.lt;have es:=n.siz;have cp:=n.low;have eg:s.next+2<T.length:=bq;have dm:An T s:=by show s.next<T.length;omega
 have dw:Av T (Ab (Ab s)):=fun n=>absurd bl n;have dp:((s.next:Int)+2)=(((Ab (Ab s)).next:Nat):Int):=by show _=((s.next+1+1:Nat):Int);omega
 obtain⟨m,l,cl,bu,dv,bm⟩: ∃(m:PS)(l:List Ex),Ba T V (Ab (Ab s))=(l,Ab m)/\Aj T AJ m=true/\m.code=0/\((Aj T AJ (Ab (Ab s))=true/\l=[]/\m=Ab (Ab s))\/(Aj T AJ (Ab (Ab s))=false/\Bj T V T.length [(V (Ab (Ab s))).1] (V (Ab (Ab s))).2=(l,m))):=by
  unfold Ba at ax⊢;cases ct:Aj T AJ (Ab (Ab s)) with
  |true=>exact⟨Ab (Ab s),[],by simp,ct,bl,.inl (by simp)⟩
  |false=>
   rw[ct] at ax;simp only[Jv,ID] at ax⊢;obtain⟨d8,c1,ap⟩:=F5 ax;exact⟨_,_,by rw[ap],d8,c1,.inr ⟨trivial,rfl⟩⟩
 rw[cl] at br⊢;have b9:(((Ab m).next:Nat):Int)=(m.next:Int)+1:=by show((m.next+1:Nat):Int)=_;omega
 obtain⟨ar,i⟩: ∃ar,ar=FL call g (decide (o.kind=3)) (Ad T s).text l S:=⟨_,rfl⟩;rw[b9,<-i];have bg:Hid (ar=FL call g (decide (o.kind=3)) (Ad T s).text l S):=i;clear b9 i;obtain⟨b8,x⟩: ∃b8,Aj T AJ (Ab (Ab s))=b8:=⟨_,rfl⟩;rw[x] at bm;have ce:=Q6 n dm bc;have ev:w.cell? (Ac O 1)=some (Aa 2):=n.cel 1 _ rfl;have ew:w.cell? (Ac O 2)=some (Aa 0):=n.cel 2 _ rfl;have ex:w.cell? (Ac O 4)=some I:=n.cel 4 _ rfl;obtain⟨P,Y,rfl,_,ca⟩:=Gt n.gro bc.1;have ed:w.cell? (Ac P (a*6+3))=some (Aa (o.args:Nat)):=ca 3 (by omega);have ek:=(BH.1 bc.1).1;have ej:(a:Int)<(G.length:Int):=by omega
 have cc:=fun ao=>AcV (n.below (GG ao (Below.refl w.heap.size w))) (s.next:Int);have a8:=fun ao=>Dw (n.below (GG ao (Below.refl w.heap.size w))) bq dp AJ (bo _ (by decide));have b2:Hid (RA O Z cap B T c U (Ar P G.length Y) G X H w N J S):=n;have a3:Hid (∀ag∈BO (Ar P G.length Y) X J G H,∀a,ag.ownBlock=some a->O<a/\a<w.heap.size):=cp;rw[x] at a8;clear n ca cp bc x;simp only[bs] at a8;go_enter func197,ntmps197;go_upto_block 0 with(first|(go_at_call 194;refine ce.mono ?_;rintro b c1⟨rfl,ao,rfl⟩)|(go_at_call 209;refine Aq (cc _) ?_)|(go_at_call 94;refine Aq (a8 _) ?_))
 have a9:=GG (w:=w) ao (Below.refl w.heap.size w)
 go_cut [15,16] (fun ak ad bx=> ∃(f:List Int)(q k:Value),ad=Aa (m.next:Nat)/\AaE O call g l S ak f bx/\Hid (RA O Z cap B T c U (Ar P G.length Y) G X H bx q k (Dn call g l S).2/\Kf O G H J k w bx))
 case first=>
  rcases bm with⟨rfl,rfl,rfl⟩|⟨rfl,de⟩
  ·go_wp2_with fail;go_loopw [15,16,18,19,20] (fun ak ad _ _ _ wr=>ak=Aw/\ad=Aa (((Ab (Ab s)).next:Nat):Int)/\wr=w.drewN ao) (fun _ _ _ _ _ _=>0)
   case atStart=>exact⟨rfl,rfl,rfl⟩
   case round=>
    obtain⟨rfl,rfl,rfl⟩:=hrel;go_wp2_with fail;go_meet;exact⟨[],N,J,rfl,⟨⟨w.heap.size,World.ownsRow_nil _ _ _ _,by simp[Value.ownBlock]⟩,by simp,rfl,fun _ _=>by rw[PK]⟩,by rw[PK];exact b2.out.below a9,Kf.of_par (As.of_below a9)⟩
  ·obtain⟨d3,dn,d0,d1,d2⟩:=info_parts Tryz.infoInt;have b4:Hid (∀(bv:Nat)(j:List Ex)(e:PS),Bj T V bv j e=(l,m)->Cy E j=none):=fun bv j e b=>XF bv j e (by rw[b];exact br);go_wp2_with fail;go_loopw [15,16,18,19,20] (fun ak ad _ _ _ wr=> ∃(e:PS)(f:List Int)(j:List Ex)(a1:Nat)(q k:Value),ad=Aa (e.next:Int)/\wr.ownsRow w.heap.size 3 1 ak (f.map (Value.int .i64)).length (f.map (.int .i64))/\An T e/\e.code=0/\T.length<=e.next+a1/\f.length<=e.next/\Hid (Df ak k/\RA O Z cap B T c U (Ar P G.length Y) G X H wr q k (Dn call g j S).2/\Kf O G H J k w wr)/\Hid ((∀p∈f,VB p)/\f.length=j.length/\(g=true->(Dn call g j S).2.stop=none->f=(Dn call g j S).1))/\Hid (Bj T V a1 (j++[(V e).1]) (V e).2=(l,m))) (fun _ ad _ _ _ _=>T.length -(intOf ad).toNat)
   case atStart=>exact⟨Ab (Ab s),[],[],T.length,N,J,rfl,World.ownsRow_nil _ _ _ _,bq,bl,by omega,by simp,⟨fun a b=>(by cases b),by rw[PK];exact b2.out.below a9,Kf.of_par (As.of_below a9)⟩,⟨by simp,rfl,fun _ _=>by rw[PK]⟩,de⟩
   case round=>
    obtain⟨e,f,j,a1,q,k,rfl,bt,bp,dj,er,et,R,b5,aj⟩:=hrel;have ef:e.next<T.length:=bp;have cs:Av T e:=fun n=>absurd dj n;have bb:=db e bp;have dx:=dc e cs;have ep:=bb.2;have eo:(V e).2.next<T.length:=bb.1
    have ba:=bt.lt;have ee:wr.cell? (Ac O 2)=some (Aa 0):=R.out.2.1.cel 2 _ rfl;have el:=R.out.2.2.fr.size
    have ch:(V e).2.code=0:=by
     cases A:Aj T Bx (V e).2 with
     |true=>exact Cp cd dx.1 Ai A
     |false=>
      have:=aj.out;rw[Ps A] at this;rw[show(V e).2=m from C4 Prod.snd this];exact dv
    have dt:AV E (V e).1=none:=by have:=b4.out _ _ _ aj.out;rw[Qe] at this;exact(Bq this).2
    have bh:=bk wr q k _ e _ g R.out.2.1 bp rfl ch cs dt bj;have b3:Hid (∀(D:World)(cy c0:Value)(b7:RS),RA O Z cap B T c U (Ar P G.length Y) G X H D cy c0 b7->Ah 94 #[Al O,Aa ((V e).2.next:Nat),.string Bx] D fun b K=>b=.returned (.bool (Aj T Bx (V e).2))/\K=D):=fun D cy c0 b7 c8=>Dw c8 bb.1 rfl _ (bo _ (by decide));unfold XP at bh;go_upto_region 13 with(go_at_call 177;refine bh.mono ?_;rintro b z⟨v4,rfl,dy,dz,a2⟩);obtain⟨af,y,cb,aw⟩:=a2.out;have em:=aw.fr.size;have ac: ∀a,u15.ownBlock=some a->O<a/\w.heap.size<=a:=fun a b=>⟨by have:=(ba a b).1;omega,(ba a b).1⟩
    have cq:z.ownsRow w.heap.size 3 1 u15 (f.map (Value.int .i64)).length (f.map (.int .i64)):=Cq bt fun a b=>aw.fr.block a (ba a b).2 (by
     rintro(h|⟨ag,t,h⟩|h)
     ·have:=ac a b;omega
     ·have:=(a3.out ag.vv (by unfold BO;simp only[BD,CD] at t⊢;rcases t with t|t;exact .inl (.inl (.inr ⟨ag,t,rfl⟩));exact .inl (.inr ⟨ag,t,rfl⟩)) a h).2;have:=ac a b;omega
     ·exact R.out.1 a b h)
    have cf:Df u15 y:=fun a b h=>by
     rcases aw.nw a h with au|au
     ·exact R.out.1 a b au
     ·have:=(ba a b).2;omega
    have M:Hid (RA O Z cap B T c U (Ar P G.length Y) G X H z af y (Dn call g (j++[(V e).1]) S).2/\Kf O G H J y w z):=⟨by rw[(Sh _ _ _).1];exact cb,R.out.2.2.trans aw⟩
    have b6:Hid ((∀p∈f++[v4],VB p)/\(f++[v4]).length=(j++[(V e).1]).length/\(g=true->(Dn call g (j++[(V e).1]) S).2.stop=none->f++[v4]=(Dn call g (j++[(V e).1]) S).1)):=by
     obtain⟨ea,eb,ec⟩:=b5.out;refine⟨fun p az=> ?_,by simp[eb],fun v h=> ?_⟩
     ·rcases BD.1 az with az|az
      ·exact ea p az
      ·rw[Hk.1 az];exact dy
     ·obtain⟨be,bf⟩:=(Sh (V e).1 j S).2 v h;rw[bf,ec v be,dz v (by rw[<-(Sh _ _ _).1];exact h)]
    have b1:Hid (∀(W:World)(ae:Value)(a4:Obj),W.ownsRow w.heap.size 3 1 ae ((f.map (Value.int .i64)).length+1) (f.map (.int .i64)++[Aa v4])->(z.alloc a4).grownBy W u15.ownBlock->(∀a,ae.ownBlock=some a->u15.ownBlock=some a\/z.heap.size<=a)->W.ownsRow w.heap.size 3 1 ae ((f++[v4]).map (Value.int .i64)).length ((f++[v4]).map (.int .i64))/\Df ae y/\RA O Z cap B T c U (Ar P G.length Y) G X H W af y (Dn call g (j++[(V e).1]) S).2/\Kf O G H J y w W):=fun W ae a4 av F c9=>by
     have dw:z.heap.size<=(z.alloc a4).heap.size:=by simp
     have eu:=F.size;have cg: ∀a,a<z.heap.size-> ¬u15.ownBlock=some a->W.heap[a]? =z.heap[a]? :=fun a v h=>(F.block a (by omega) (fun b=>h b.symm)).trans (((Below.refl z.heap.size z).alloc (AA _) a4).block a v);refine⟨by rw[E6,AG];exact av,fun a b h=> ?_,M.out.1.besides (by omega) cg (fun a b=>⟨(ac a b).1,fun ag t h=> ?_⟩),⟨⟨?_,?_,?_,by omega,fun a v h=> ?_⟩,M.out.2.nw⟩⟩
     ·rcases c9 a b with au|au
      ·exact cf a au h
      ·have:=(M.out.1.low y (by unfold BO;simp) a h).2;omega
     ·unfold BO at t;simp only[BD,C0,I0,Jl] at t;rcases t with(((rfl|rfl|rfl)|t)|t)|t
      ·have:=(a3.out _ (by unfold BO;simp) a h).2;have:=ac a b;omega
      ·have:=(a3.out _ (by unfold BO;simp) a h).2;have:=ac a b;omega
      ·exact cf a b h
      all_goals(have:=(a3.out ag (by unfold BO;simp only[BD];simp[t]) a h).2;have:=ac a b;omega)
     ·rw[F.os];exact M.out.2.fr.os
     ·rw[F.tape];exact M.out.2.fr.tape
     ·rw[F.output];exact M.out.2.fr.output
     ·exact(cg a (by have:=M.out.2.fr.size;omega) (fun b=>by have:=ac a b;omega)).trans (M.out.2.fr.block a v h)
    clear cb aw a2 bh b4 bk
    go_upto_region 15 with(first
     |(at_builtin;refine Gw rfl _ _ 23 rfl w.heap.size 3 d3 _ 1 8 underlying23 dn d0 d1 d2 rfl (by decide) _ (f.map (Value.int .i64)).length (f.map (.int .i64)) rfl (cq.alloc _) (Ac _ 0) 1 1 [Aa v4] rfl rfl (cell_one_new _ _ _) ?ah1 ?ah63 ?ahby ?ahbase ?ahh
       case ah1=>intro ez cu;simp at cu;subst cu;rfl
       case ah63=>unfold maxLen;simp;omega
       case ahby=>simp;omega
       case ahbase=>simp;omega
       intro ae c2 cr co cx;have ah:Hid _:=b1.out c2 ae _ cr co (fun a b=>cx.elim (fun v=>.inl (v.symm.trans b)) (fun v=>.inr (AT (by simp) (v a b))))
       clear cr co cx))
    have al:=b3.out c2 af y _ ah.out.2.2.1;clear b1 b3 R b5 cq bt;cases A:Aj T Bx (V e).2 with
    |true=>
     rw[A] at al;have cm:=AD cd bb.1 A Ai;have eh:(V e).2.next+1<T.length:=cm
     obtain⟨a0,rfl⟩: ∃a0,a1=a0+1:=⟨a1 -1,by omega⟩;have c6:Hid (Bj T V a0 ((j++[(V e).1])++[(V (Ab (V e).2)).1]) (V (Ab (V e).2)).2=(l,m)):=by show _=_;rw[<-aj.out,RG A]
     simp only[bs] at al;clear aj A;go_wp2_with(go_at_call 94;refine Aq al ?_)
     go_roundw
     case rel=>exact⟨Ab (V e).2,f++[v4],j++[(V e).1],a0,af,y,by show _=Value.int .i64 (((V e).2.next+1:Nat):Int);go_num,ah.out.1,cm,ch,by show T.length<=(V e).2.next+1+a0;omega,by rw[AG];show f.length+1<=(V e).2.next+1;omega,ah.out.2,b6.out,c6.out⟩
     case measure=>simp[intOf];omega
    |false=>
     rw[A] at al;have a7:=aj.out;rw[Ps A] at a7;have c3:Hid (j++[(V e).1]=l/\(V e).2=m):=⟨C4 Prod.fst a7,C4 Prod.snd a7⟩;simp only[bs] at al;clear aj A a7;go_wp2_with(go_at_call 94;refine Aq al ?_);go_meet;obtain⟨v,h⟩:=c3.out;rw[<-v,<-h];exact⟨f++[v4],af,y,rfl,⟨⟨_,by have:=ah.out.1;rw[BF] at this;exact this,fun b=>by have:=(ah.out.1.lt O b).1;omega⟩,b6.out⟩,ah.out.2.2⟩
 case rest=>
  obtain⟨f,q,k,rfl,a5,r⟩:=hcut;have cn:An T m:=LK bu Ai;have ei:m.next<T.length:=cn;have am:=GQ r.out.1 cn rfl AJ (bo _ (by decide)) bu;have aa:=Hu r.out.1 g;have ey:wc.cell? (Ac O 9)=some (Aa (c:Nat)):=r.out.1.cel 9 _ rfl;simp only[bs] at am;clear bm bk ce cc a8 cl ax br bu;cases x:(g&& !(Dn call g l S).2.stop.isSome) with
  |false=>
   have C:Hid (ar=(0,(Dn call g l S).2)):=by show _=_;rw[bg.out];unfold FL;rw[Ae (by rw[x];simp)]
   rw[x] at aa;have c7:Hid _:=r.out;clear x r;go_wp2_with(first|(go_at_call 123;refine Aq am ?_)|(go_at_call 178;refine Aq aa ?_));go_ret2;rw[C.out];exact⟨0,rfl,⟨by omega,by omega⟩,fun _ _=>rfl,q,k,c7.out⟩
  |true=>
   have du:g=true:=by cases g<;>simp_all
   subst du
   have ay:(Dn call true l S).2.stop=none:=by
    cases da:(Dn call true l S).2.stop with
    |none=>rfl
    |some d9=>rw[da] at x;simp at x
   have cw:=a5.2.2.2 rfl ay;have i:ar=call (decide (o.kind=3)) (Ad T s).text f (Dn call true l S).2:=by rw[bg.out];unfold FL;rw[Ag x,<-cw]
   rw[x] at aa;clear x cw bg;generalize(Dn call true l S).2=aq at*;by_cases dk:30<=c
   ·have dl:(c:Int)>=30:=by omega
    have dd:=Mb r.out.1 ay 13;have ai:Hid _:=r.out.2;rw[dh dk] at i;have C:Hid _:=i;clear r i;go_wp2_with(first|(go_at_call 123;refine Aq am ?_)|(go_at_call 178;refine Aq aa ?_)|(go_at_call 179;refine dd.mono ?_;rintro b ap⟨rfl,Q,an⟩));go_ret2;rw[C.out];exact⟨0,rfl,⟨by omega,by omega⟩,fun _=>rfl,q,k,Q.out,ai.out.trans (Kf.of_par an)⟩
   ·have dl: ¬(c:Int)>=30:=by omega
    rw[di (by omega) (bj rfl) _ _ ay] at i;have a6:=bn (by omega) (bj rfl);rcases ds with dq|dr
    ·have bi:=a6 wc q k u15 aq f r.out.1 a5.2.1 a5.1;have ai:Hid _:=r.out.2;rw[dq] at i⊢;rw[Ae (by simp),Ae (by omega)] at i;have C:Hid _:=i;clear r a6 bn i;go_wp2_with(first|(go_at_call 123;refine Aq am ?_)|(go_at_call 178;refine Aq aa ?_)|(go_at_call 210;refine bi.mono ?_;rintro b ap⟨d4,rfl,df,cj,Q⟩;have c4:Hid _:=cj;clear cj));go_ret2;obtain⟨d6,d7,av,F⟩:=Q.out;rw[C.out];exact⟨d4,rfl,df,fun _=>c4.out,d6,d7,av,ai.out.trans F⟩
    ·have ab:=Lm r.out.1 true;rw[ay] at ab;have ci:aq.due B true=aq.unit B:=by unfold RS.due;rw[ay];rfl
     rw[ci] at ab;have ai:Hid _:=r.out.2;rw[dr] at i⊢;have b0:Hid _:=a6;have bz:Hid _:=a5;clear r a6 bn ci;cases cv:(aq.unit B).stop with
     |some d9=>
      rw[cv] at ab i;rw[Ag (by simp)] at i;have C:Hid _:=i;clear i;go_wp2_with(first|(go_at_call 123;refine Aq am ?_)|(go_at_call 178;refine Aq aa ?_)|(go_at_call 176;refine ab.mono ?_;rintro b ap⟨rfl,Q,an⟩));go_ret2;rw[C.out];exact⟨0,rfl,⟨by omega,by omega⟩,fun _=>rfl,q,k,Q.out,ai.out.trans (Kf.of_par an)⟩
     |none=>
      rw[cv] at ab i;rw[Ae (by simp),Ag rfl] at i;have C:Hid _:=i;clear i;go_upto_region 27 with(first|(go_at_call 123;refine Aq am ?_)|(go_at_call 178;refine Aq aa ?_)|(go_at_call 176;refine ab.mono ?_;rintro b ap⟨rfl,Q,an⟩))
      have bi:=b0.out ap q k u15 (aq.unit B) f Q.out bz.out.2.1 (by
       obtain⟨base,be,bf⟩:=bz.out.1
       exact⟨base,Cq be fun a b=>an.block a (be.lt a b).2 (fun h=>bf (by rw[b,h])),bf⟩)
      clear ab b0;go_wp2_with(go_at_call 210;refine bi.mono ?_;rintro b z⟨v4,rfl,dg,ck,a2⟩;have c5:Hid _:=ck;clear ck);go_ret2;obtain⟨af,y,av,F⟩:=a2.out;rw[C.out];exact⟨v4,rfl,dg,fun _=>c5.out,af,y,av,(ai.out.trans (Kf.of_par an)).trans F⟩
variable{Y:AU}
def CK(E:Ao)(L:Prop)(O Z cap B:Nat)(T:List Az)(c:Nat)(U:Int)(I:Value)(G:List GC)(X:Value)(H:List GC)(call:Dr)(d:Int)(V:AU):Prop:=
 ∀(w:World)(N J:Value)(S:RS)(s:PS)(b:Bool)(h:Nat)(a:GC),RA O Z cap B T c U I G X H w N J S->s.code=0->An T (Ab (Ab s))->J7 G H (Ad T s).text h a->(a.kind=2\/a.kind=3)->(Ba T V (Ab (Ab s))).2.code=0->Cy E (Ba T V (Ab (Ab s))).1=none->(b=true->L)->
 Ah 197 #[Al O,Aa (s.next:Nat),Aa d,.bool b,Aa (a.kind:Nat)] w fun g K=> ∃e:Int,g=.returned (.tuple #[Aa e,Aa ((Ba T V (Ab (Ab s))).2.next:Nat)])/\VB e/\(b=true->(FL call b (decide (a.kind=3)) (Ad T s).text (Ba T V (Ab (Ab s))).1 S).2.stop=none->e=(FL call b (decide (a.kind=3)) (Ad T s).text (Ba T V (Ab (Ab s))).1 S).1)/\Hid (∃i f,RA O Z cap B T c U I G X H K i f (FL call b (decide (a.kind=3)) (Ad T s).text (Ba T V (Ab (Ab s))).1 S).2/\Kf O G H J f w K)
theorem Acb{c:Af}{p:Nat}{b:List Ex}{a:Bool}:AC call a (.call c p b) S=FL call a true c b S:=by
 unfold AC FL Dn;cases d:(a&& !S.stop.isSome) with
 |false=>
  simp only[Jv,ID];rw[d];simp
 |true=>
  simp only[Hr];rw[AB];have e:a=true:=by cases a<;>simp_all
  subst e;cases(Cd call b S).2.stop<;>simp
theorem Afp(k:AR T)(m:Cj T)(ad:AM T Y)(ag:0<=d/\d<=14)(j:Fj E G H)(D:XK E L O Z cap B T c U I G X H call 177 (d+1) Y)(C:CK E L O Z cap B T c U I G X H call (d+1) Y):NK E L O Z cap B T c U I G X H call d Y:=by
 intro w N J S s aq b e n ai y f F a t;subst ai;have u:=JJ k n y;unfold Do at f a⊢;by_cases h:Aj T Bl (Ab s)=true
 ·rw[Ag h] at f a⊢;have ah:=AD k u h Ai;rw[AV] at a;obtain⟨g,p⟩:=Bq a
  have M:(E.kindIx (Ad T s).text).1=((3:Nat):Int):=by
   unfold GJ at g;split at g
   ·assumption
   ·cases g
  obtain⟨P,A,q,o,_⟩:=j.outAt (by omega) M;have r:=C w N J S s b P A e F ah q (.inr o) f p t;have ap:=e.siz;have ao:s.next<T.length:=n;have v:=Dw e u (i:=(s.next:Int)+1) (by show _=((s.next+1:Nat):Int);omega) BL (m [91] (by decide));have x:=Dw e u (i:=(s.next:Int)+1) (by show _=((s.next+1:Nat):Int);omega) Bl (m [40] (by decide));rw[DU h (by decide)] at v;rw[h] at x;rw[o] at r;have W:decide ((3:Nat)=3)=true:=rfl;rw[W] at r;unfold XP;rw[Acb];simp only[bs] at v x;change Calls _ _ _ _ fun z K=> ∃i:Int,z=.returned (.tuple #[Aa i,Aa (((Ba T Y (Ab (Ab s))).2.next:Nat):Int)])/\_;show Calls _ _ _ _ fun aa K=> ∃i:Int,aa=.returned (.tuple #[Aa i,Aa (((Ba T Y (Ab (Ab s))).2.next:Nat):Int)])/\VB i/\(b=true->(FL call b true (Ad T s).text (Ba T Y (Ab (Ab s))).1 S).2.stop=none->i=(FL call b true (Ad T s).text (Ba T Y (Ab (Ab s))).1 S).1)/\Hid (∃am Q,RA O Z cap B T c U I G X H K am Q (FL call b true (Ad T s).text (Ba T Y (Ab (Ab s))).1 S).2/\Kf O G H J Q w K);clear e f a g p M t D C j q;generalize FL call b true (Ad T s).text (Ba T Y (Ab (Ab s))).1 S=an at*;go_enter func228,ntmps228;go_upto_region 2 with(go_at_call 94;refine Aq v ?_);go_upto_region 3 with(go_at_call 94;refine Aq x ?_);go_wp2_with(go_at_call 197;refine r.mono ?_;rintro z ar⟨v1,rfl,ae,al,R⟩);go_ret2;exact⟨v1,rfl,ae,al,R.out⟩
 ·rw[Ae h] at f a⊢;by_cases l:Aj T BL (Ab s)=true
  ·rw[Ag l] at f a⊢;rw[AV] at a;obtain⟨g,p⟩:=Bq a
   have ak:(E.kindIx (Ad T s).text).1=((1:Nat):Int):=by
    unfold Dz at g;split at g
    ·assumption
    ·cases g
   obtain⟨P,A,q,o,_⟩:=j.outAt (by omega) ak;obtain⟨ac,af,ab⟩:=F5 (f:=Cn) (s:=(Y (Ab (Ab s))).2) f;have:=Ae8 k m Y ad ag D e n b y F l q o (Ad T s).pos ac af p t
   have V:(Cg T Y (Cs T none s 1 (Ab (Ab s)))).2.next=(Y (Ab (Ab s))).2.next+1:=by
    show(Am T Cn (Y (Ab (Ab s))).2).next=_
    rw[ab];rfl
   show Calls _ _ _ _ (XP O Z cap B T c U I G X H call b (.elem (Ad T s).text (Ad T s).pos (Y (Ab (Ab s))).1) (Cg T Y (Cs T none s 1 (Ab (Ab s)))).2.next S w J);rw[V];exact this
  ·rw[Ae l] at f a⊢;rw[AV] at a
   have aj:(E.kindIx (Ad T s).text).1=0:=by
    unfold Dz at a;split at a
    ·assumption
    ·cases a
   exact Ae9 k m e n b y (by simpa using l) (by simpa using h) (j.varAt e aj) _
theorem Nq{t:St}{F:RS->RS}{b c:Bool}(hF: ∀S,Cr B call t S=if(S.unit B).stop.isSome then S.unit B else F (S.unit B))(a:c=(b&& !S.stop.isSome&& !(S.unit B).stop.isSome)):
 Co B call b t S=(if c then F (S.due B b) else S.due B b)/\(c=true->(S.due B b).stop=none):=by
 unfold Co RS.due;cases d:(b&& !S.stop.isSome) with
 |false=>rw[d] at a;subst a;simp
 |true=>
  rw[d] at a;rw[Ag rfl,Ag rfl,hF];cases e:(S.unit B).stop with
  |none=>rw[e] at a;subst a;simp
  |some f=>rw[e] at a;subst a;simp
theorem AgV{d:Af}{p:Nat}{a:Ex}{b c:Bool}(g:c=(b&& !S.stop.isSome&& !(S.unit B).stop.isSome)):
 Co B call b (.assign d p a) S=if c&& !(AC call c a (S.due B b)).2.stop.isSome then(AC call c a (S.due B b)).2.set d (AC call c a (S.due B b)).1 else(AC call c a (S.due B b)).2:=by
 obtain⟨e,f⟩:=Nq (t:=.assign d p a) (F:=fun S=>if(AB call a S).2.stop.isSome then(AB call a S).2 else(AB call a S).2.set d (AB call a S).1) (call:=call) (fun S=>by rw[Cr]) g;rw[e];cases c with
 |false=>rw[Ez rfl];simp
 |true=>
  rw[FM (f rfl)];cases(AB call a (S.due B b)).2.stop<;>simp
theorem AgS(a:RA O Z cap B T c U I G X H w N J S)(d:Int):Ah 193 #[Al O,Aa d] w fun b K=>b=.returned (.bool false)/\K=w:=by have e:w.cell? (Ac O 1)=some (Aa 2):=a.cel 1 _ rfl;clear a;go_enter func193,ntmps193;go_wp2;go_ret;exact⟨rfl,rfl⟩
theorem Fj.assignAt(e:Fj E G H)(g:L->J9 E H)(d:RA O Z cap B T c U I G X H w N J S){b:Af}{p:Nat}(a:GD E b p=none)(f:L):Lv G H S b:=by
 unfold GD at a;split at a
 ·rename_i i;exact .inl (g f b i)
 ·unfold Dz at a;split at a
  ·rename_i h;exact e.varAt d h
  ·cases a
theorem Abc(ap:AR T)(ae:Cj T)(a3:AM T Y)(ba:0<=d/\d<=14)(al:Fj E G H)(an:L->J9 E H)(aq:XK E L O Z cap B T c U I G X H call 177 (d+1) Y)(g:RA O Z cap B T c U I G X H w N J S){s:PS}(au:An T s)(a6:AN T .name s=true)(a5:s.code=0)(b:Bool)(o:Aj T BK (Ab s)=true)(ar:(Y (Ab (Ab s))).2.code=0)(af:A5 E (.assign (Ad T s).text (Ad T s).pos (Y (Ab (Ab s))).1)=none)(am:b=true->L):
 Ah 173 #[Al O,Aa (s.next:Nat),Aa d,.bool b] w (SP O Z cap B T c U I G X H (Y (Ab (Ab s))).2.next (Co B call b (.assign (Ad T s).text (Ad T s).pos (Y (Ab (Ab s))).1) S) w J):=by
 have p:=JJ ap au a6;have y:=AD ap p o Ai;have ax:=a3 (Ab (Ab s)) y;have bd:=g.siz;have bb:s.next+2<T.length:=y;have W:(s.next:Int)+1=(((Ab s).next:Nat):Int):=by show _=((s.next+1:Nat):Int);omega
 have q:=Dw g p W BK (ae _ (by decide));have r:=Dw g p W BL (ae _ (by decide));have t:=Dw g p W Bl (ae _ (by decide));rw[o] at q;rw[DU o (by decide)] at r;rw[DU o (by decide)] at t;have bf:w.cell? (Ac O 1)=some (Aa 2):=g.cel 1 _ rfl;have ac:=AgS g (s.next:Int);obtain⟨a,z⟩: ∃a,a=(b&& !S.stop.isSome&& !(S.unit B).stop.isSome):=⟨_,rfl⟩;have x:=Lm g b;rw[<-z] at x;have ah:a=true->L:=fun f=>am (by rw[z] at f;simp at f;exact f.1.1);rw[A5] at af;obtain⟨av,aw⟩:=Bq af;obtain⟨ak,v⟩: ∃ak,ak=Co B call b (.assign (Ad T s).text (Ad T s).pos (Y (Ab (Ab s))).1) S:=⟨_,rfl⟩;rw[<-v];rw[AgV z] at v;have aj:Hid _:=v;clear v;have R:Hid (∀(e:World)(k i:Value),RA O Z cap B T c U I G X H e k i (S.due B b)->Ah 177 #[Al O,Aa ((s.next:Int)+2),Aa (d+1),.bool a] e (XP O Z cap B T c U I G X H call a (Y (Ab (Ab s))).1 (Y (Ab (Ab s))).2.next (S.due B b) e i)):=fun e k i aa=>aq e k i _ (Ab (Ab s)) _ a aa y (by show _=((s.next+1+1:Nat):Int);omega) ar (A4 (s:=Ab s) a5) aw ah;have Q:Hid (∀(e:World)(k i:Value)(V:RS),a=true->RA O Z cap B T c U I G X H e k i V->Lv G H V (Ad T s).text):=fun e k i V f aa=>al.assignAt an aa av (ah f);have bc:(Y (Ab (Ab s))).2.next<T.length:=ax.1
 clear g o ar af av aw z ah am aq al an y ax p;unfold SP XP at*;generalize(Y (Ab (Ab s))).2=be at*;generalize(Y (Ab (Ab s))).1=n at*;generalize S.due B b=m at*;simp only[bs] at q r t;go_enter func173,ntmps173;go_upto_region 2 with(go_at_call 94;refine Aq q ?_);go_upto_region 3 with(go_at_call 94;refine Aq r ?_);go_upto_region 4 with(go_at_call 94;refine Aq t ?_);go_upto_region 9 with(first|(go_at_call 193;refine Aq ac ?_)|(go_at_call 176;refine x.mono ?_;rintro f a9⟨rfl,F,ai⟩));have ad:=R.out a9 N J F.out;go_upto_region 10 with(go_at_call 177;refine ad.mono ?_;rintro f D⟨ay,rfl,a4,A,K⟩);obtain⟨C,l,j,ab⟩:=K.out;have u:=Hu j a;have M:Hid (RA O Z cap B T c U I G X H D C l (AC call a n m).2/\Kf O G H J l w D):=⟨j,(Kf.of_par ai).trans ab⟩;cases h:(a&& !(AC call a n m).2.stop.isSome) with
 |false=>
  rw[h] at u;clear j ab K F ai ad R x A Q ac q r t;have P:Hid _:=h;clear h;go_wp2_with(go_at_call 178;refine Aq u ?_);go_ret;rw[aj.out,Ae (by rw[P.out];simp)];exact⟨rfl,C,l,M.out⟩
 |true=>
  rw[h] at u;have a7:a=true:=by cases a<;>simp_all
  subst a7
  have ag:(AC call true n m).2.stop=none:=by
   cases a2:(AC call true n m).2.stop with
   |none=>rfl
   |some bh=>rw[a2] at h;simp at h
  have ao:=Zm j au rfl (Q.out D C l _ rfl j) ay a4;rw[A rfl ag] at ao;have a1:ay=(AC call true n m).1:=A rfl ag;have a0:Hid (Kf O G H J l w D):=M.out.2;have P:Hid _:=h;clear j ab K F ai ad R x Q ac q r t h ag M A;subst a1;go_wp2_with(first|(go_at_call 178;refine Aq u ?_)|(go_at_call 195;refine ao.mono ?_;rintro f bg⟨rfl,az,a8⟩));go_ret;rw[aj.out,Ag P.out];exact⟨rfl,C,l,az.out,a0.out.trans a8⟩
theorem AgX{c:Af}{p:Nat}{a:List Ex}{b d:Bool}(h:d=(b&& !S.stop.isSome&& !(S.unit B).stop.isSome)):Co B call b (.proc c p a) S=(FL call d false c a (S.due B b)).2:=by
 obtain⟨e,f⟩:=Nq (t:=.proc c p a) (F:=fun S=>if(Cd call a S).2.stop.isSome then(Cd call a S).2 else(call false c (Cd call a S).1 (Cd call a S).2).2) (call:=call) (fun S=>by rw[Cr]) h;rw[e];unfold FL Dn;cases d with
 |false=>simp
 |true=>
  rw[f rfl];cases g:(Cd call a (S.due B b)).2.stop<;>simp[g]
theorem AgY{e:Af}{p:Nat}{b c:Ex}{g d:Bool}(k:d=(g&& !S.stop.isSome&& !(S.unit B).stop.isSome)){a:Int×RS}(f:a=AC call d b (S.due B g)):
 Co B call g (.put e p b c) S=if d&& !a.2.stop.isSome then(if G8 (a.2.row e) a.1 then(if d&& !(AC call d c a.2).2.stop.isSome then(AC call d c a.2).2.put e a.1 (AC call d c a.2).1 else(AC call d c a.2).2) else a.2.fail 9) else a.2:=by
 obtain⟨h,i⟩:=Nq (t:=.put e p b c) (F:=fun S=>if(AB call b S).2.stop.isSome then(AB call b S).2 else if G8 ((AB call b S).2.row e) (AB call b S).1 then(if(AB call c (AB call b S).2).2.stop.isSome then(AB call c (AB call b S).2).2 else(AB call c (AB call b S).2).2.put e (AB call b S).1 (AB call c (AB call b S).2).1) else(AB call b S).2.fail 9) (call:=call) (fun S=>by rw[Cr]) k;rw[h];cases d with
 |false=>rw[f,Ez rfl];simp
 |true=>
  rw[FM (i rfl)] at f;rw[<-f];cases j:a.2.stop with
  |some l=>simp
  |none=>
   rw[FM j];cases(AB call c a.2).2.stop<;>simp
theorem AfX(A:AR T)(n:Cj T)(aq:0<=d/\d<=14)(y:Fj E G H)(x:CK E L O Z cap B T c U I G X H call (d+1) Y)(b:RA O Z cap B T c U I G X H w N J S){s:PS}(af:An T s)(ah:AN T .name s=true)(ae:s.code=0)(a:Bool)(f:Aj T Bl (Ab s)=true)(D:(Ba T Y (Ab (Ab s))).2.code=0)(t:A5 E (.proc (Ad T s).text (Ad T s).pos (Ba T Y (Ab (Ab s))).1)=none)(z:a=true->L):
 Ah 173 #[Al O,Aa (s.next:Nat),Aa d,.bool a] w (SP O Z cap B T c U I G X H (Ba T Y (Ab (Ab s))).2.next (Co B call a (.proc (Ad T s).text (Ad T s).pos (Ba T Y (Ab (Ab s))).1) S) w J):=by
 have g:=JJ A af ah;have o:=AD A g f Ai;have au:=b.siz;have ar:s.next+2<T.length:=o;have m:(s.next:Int)+1=(((Ab s).next:Nat):Int):=by show _=((s.next+1:Nat):Int);omega
 have p:=Dw b g m BK (n _ (by decide));have q:=Dw b g m BL (n _ (by decide));have r:=Dw b g m Bl (n _ (by decide));rw[DU f (by decide)] at p;rw[DU f (by decide)] at q;rw[f] at r;obtain⟨h,j⟩: ∃h,h=(a&& !S.stop.isSome&& !(S.unit B).stop.isSome):=⟨_,rfl⟩;have C:=Lm b a;rw[<-j] at C;have P:h=true->L:=fun e=>z (by rw[j] at e;simp at e;exact e.1.1);rw[A5] at t;obtain⟨i,K⟩:=Bq t
 have ag:(E.kindIx (Ad T s).text).1=((2:Nat):Int):=by
  unfold GJ at i;split at i
  ·assumption
  ·cases i
 obtain⟨ai,W,M,F,_⟩:=y.outAt (by omega) ag;rw[AgX j];have k:Hid (∀(l:World)(u v:Value),RA O Z cap B T c U I G X H l u v (S.due B a)->_):=fun l u v aa=>x l u v _ s h ai W aa ae o M (.inl F) D K P;rw[F] at k;have V:decide ((2:Nat)=3)=false:=rfl;rw[V] at k;clear b f D t i K j P z x y o g M;unfold SP;generalize FL call h false (Ad T s).text (Ba T Y (Ab (Ab s))).1 (S.due B a)=an at*;generalize S.due B a=ao at*;simp only[bs] at p q r;go_enter func173,ntmps173;go_upto_region 2 with(go_at_call 94;refine Aq p ?_);go_upto_region 3 with(go_at_call 94;refine Aq q ?_);go_upto_region 4 with(go_at_call 94;refine Aq r ?_);go_upto_region 18 with(go_at_call 176;refine C.mono ?_;rintro e am⟨rfl,Q,aj⟩);have ac:=k.out am N J Q.out;go_wp2_with(go_at_call 197;refine ac.mono ?_;rintro e ax⟨aw,rfl,ap,av,R⟩);go_ret;obtain⟨ak,al,ab,ad⟩:=R.out;exact⟨rfl,ak,al,ab,(Kf.of_par aj).trans ad⟩
end
