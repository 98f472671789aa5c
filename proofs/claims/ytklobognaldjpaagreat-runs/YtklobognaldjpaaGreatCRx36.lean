/- The reference's walk as it runs: a while. The reference's wa -/
import Derived.Deep.LoopGhost
import Derived.Test.YtklobognaldjpaaGreatCRx32
set_option maxRecDepth 1000000
set_option maxHeartbeats 8000000
namespace Go.Proofs.YtklobognaldjpaaGreat
open Go.Proofs.Tryz
open Go.RowKit
section
variable{E:Ao}{L:Prop}{V J cap B:Nat}{T:List Az}{c:Nat}{U:Int}{Z:Value}{G:List GC}{I:Value}{H:List GC}{call:Dr}{d:Int}{w:World}{A N:Value}{S:RS}
def K4(B:Nat)(call:Dr)(c:Bool)(b:Ex)(a:St)(d:Nat)(S:RS):RS:=if c&& !S.stop.isSome then JP B (AB call b) (Cr B call a) d S else S
theorem Aes{d i:Bool}{e:Ex}{b:St}{g:Nat}{v:Int}(m:Jw call)(u:S.used<=B)(z:B+2<=S.used+g)(f:i=(d&& !S.stop.isSome&& !(S.unit B).stop.isSome)){a:Int×RS}(c:a=AC call i e (S.due B d))(k:i=true->a.2.stop=none->v=a.1):
 ((i&& !a.2.stop.isSome&&(v !=0))=false->K4 B call d e b g S=a.2)/\((i&& !a.2.stop.isSome&&(v !=0))=true->K4 B call d e b g S=K4 B call d e b (g -1) (Co B call true b a.2)/\B+2<=(Co B call true b a.2).used+(g -1)):=by
 obtain⟨o,rfl⟩: ∃o,g=o+1:=⟨g -1,by omega⟩;unfold K4;cases j:(d&& !S.stop.isSome) with
 |false=>
  rw[j] at f;subst f;rw[Ez rfl] at c;have:S.due B d=S:=by unfold RS.due;rw[j];rfl
  rw[this] at c;subst c;simp
 |true=>
  have s:d=true:=by cases d<;>simp_all
  have r:S.due B d=S.unit B:=by unfold RS.due;rw[j];rfl
  rw[j] at f;rw[r] at c;rw[Ag rfl,JP];cases h:(S.unit B).stop with
  |some t=>
   rw[h] at f;subst f;rw[Ez rfl] at c;subst c;simp
  |none=>
   rw[h] at f;subst f;rw[show(true&& !(none:Option Nat).isSome)=true from rfl] at c k⊢;rw[FM h] at c;rw[<-c];cases n:a.2.stop with
   |some t=>simp
   |none=>
    have k:=k rfl n;subst k;simp only[KO,Jv,ID,Bool.not_false,Bool.true_and];refine⟨fun l=> ?_,fun l=> ?_⟩
    ·rw[Ag (by simpa using l)]
    ·rw[Ae (by simpa using l)];have q:Co B call true b a.2=Cr B call b a.2:=TQ n;rw[q,s]
     have w:(S.unit B).used=S.used+1:=by
      have: ¬B<=S.used:=fun p=>by unfold RS.unit at h;rw[Ag p] at h;cases h
      unfold RS.unit;rw[Ae this]
     have x:(S.unit B).used<=a.2.used:=by rw[c];exact Ip m e _
     have y:=NA (B:=B) m b a.2;refine⟨?_,by omega⟩;cases(Cr B call b a.2).stop<;>simp
theorem Ajq(Y:AR T)(X:Cj T)(a:AU)(g:PS->St×PS)(bt:AM T a)(br:AM T g)(bv:SM T a)(bu:SM T g)(b7:0<=d/\d<=14)(bp:Jw call)(a2:XK E L V J cap B T c U Z G I H call 177 (d+1) a)(a0:SK E L V J cap B T c U Z G I H call 151 (d+1) g)(q:RA V J cap B T c U Z G I H w A N S){s:PS}(P:An T (Ab s))(j:Bool)(a4:s.code=0)(u:(F6 T a g (Ab s)).2.code=0)(y:A5 E (F6 T a g (Ab s)).1=none)(bq:j=true->L):
 Ah 175 #[Al V,Aa (s.next:Nat),Aa d,.bool j] w (SP V J cap B T c U Z G I H (F6 T a g (Ab s)).2.next (Co B call j (F6 T a g (Ab s)).1 S) w N):=by
 have cc:=q.siz;have b8:s.next+1<T.length:=P;have aj:Av T (Ab s):=A4 a4;have ai:=bt (Ab s) P;have bc:=bv (Ab s) aj;unfold F6 at u y⊢
 have R:Av T (Am T Eh (a (Ab s)).2):=by
  unfold Am;split
  ·rename_i bw;exact A4 (Cp Y bc.1 Ai bw)
  ·intro _;rfl
 have a6:=Lk bu R u;obtain⟨ab,a5,az⟩:=F5 a6;have Q:=AD Y ai.1 ab Ai;rw[az] at u y R⊢;have a9:=br _ Q;rw[A5] at y;obtain⟨a8,a7⟩:=Bq y
 have aw:Hid (Co B call j (.loop (a (Ab s)).1 (g (Ab (a (Ab s)).2)).1) S=K4 B call j (a (Ab s)).1 (g (Ab (a (Ab s)).2)).1 (B+2) S):=by
  show _=_;unfold Co K4;split
  ·rw[Cr]
  ·rfl
 have bo:Hid (∀(e:Bool)(f:World)(h O:Value)(b:RS),(e=true->L)->RA V J cap B T c U Z G I H f h O b->Ah 177 #[Al V,Aa ((s.next:Int)+1),Aa (d+1),.bool e] f (XP V J cap B T c U Z G I H call e (a (Ab s)).1 (a (Ab s)).2.next b f O)):=fun e f h O b x r=>a2 f h O _ (Ab s) _ e r P (by show _=((s.next+1:Nat):Int);omega) a5 aj a8 x;have bm:Hid (∀(f:World)(h O:Value)(b:RS),RA V J cap B T c U Z G I H f h O b->Ah 123 #[Al V,Aa ((a (Ab s)).2.next:Nat),.string Eh] f fun i b2=>i=.returned (Aa (((a (Ab s)).2.next:Int)+1))/\b2=f):=fun f h O b r=>GQ r ai.1 rfl _ (X _ (by decide)) ab;have bj:Hid (∀(k:Bool)(f:World)(h O:Value)(b:RS),(k=true->L)->RA V J cap B T c U Z G I H f h O b->Ah 151 #[Al V,Aa (((a (Ab s)).2.next:Int)+1),Aa (d+1),.bool k] f (SP V J cap B T c U Z G I H (g (Ab (a (Ab s)).2)).2.next (Co B call k (g (Ab (a (Ab s)).2)).1 b) f O)):=fun k f h O b x r=>a0 f h O b (Ab (a (Ab s)).2) _ k r Q (by show _=(((a (Ab s)).2.next+1:Nat):Int);omega) u R a7 x;have bk:Hid (RA V J cap B T c U Z G I H w A N S):=q;have ca:(a (Ab s)).2.next+1<T.length:=Q
 have cb:(g (Ab (a (Ab s)).2)).2.next<T.length:=a9.1
 obtain⟨z,ag⟩: ∃z,z=Co B call j (.loop (a (Ab s)).1 (g (Ab (a (Ab s)).2)).1) S:=⟨_,rfl⟩;rw[<-ag];have bn:Hid (K4 B call j (a (Ab s)).1 (g (Ab (a (Ab s)).2)).1 (B+2) S=z):=by show _=_;rw[ag,aw.out]
 clear q u y a8 a7 a4 a5 az R bc ai a9 Q ab P aj a2 a0 aw ag a6;generalize(g (Ab (a (Ab s)).2)).2=ce at*;generalize(g (Ab (a (Ab s)).2)).1=ay at*;generalize(a (Ab s)).2=cd at*;generalize(a (Ab s)).1=n at*;unfold SP XP at*;go_enter func175,ntmps175;go_wp2_with fail;go_loopg [9,10,11,12,13] (B+2) (fun bg _ _ _ _ _ wr=> ∃(b:RS)(h O:Value),Hid (RA V J cap B T c U Z G I H wr h O b/\Kf V G H N O w wr)/\Hid (K4 B call j n ay bg b=z)/\B+2<=b.used+bg)
 case atStart=>exact⟨S,A,N,⟨bk.out,Kf.refl _ _ _ _ _⟩,bn.out,by omega⟩
 case round=>
  obtain⟨b,h,O,p,av,ba⟩:=hrel;obtain⟨e,W⟩: ∃e,e=(j&& !b.stop.isSome&& !(b.unit B).stop.isSome):=⟨_,rfl⟩;have ah:=Lm p.out.1 j;rw[<-W] at ah;have bd:e=true->L:=fun i=>bq (by rw[W] at i;simp at i;exact i.1.1);have au:Hid (∀ak,(e=true->(AC call e n (b.due B j)).2.stop=none->ak=(AC call e n (b.due B j)).1)->_):=fun ak bz=>Aes (e:=n) (b:=ay) (v:=ak) (call:=call) bp p.out.1.use ba W rfl bz;have aq:Hid (Kf V G H N O w wr):=p.out.2;have b9:0<gk:=by have:=p.out.1.use;omega
  clear W ba;generalize b.due B j=ax at*;go_upto_region 2 with(go_at_call 176;refine ah.mono ?_;rintro i D⟨rfl,ao,bh⟩);have a3:=bo.out e D h O _ bd ao.out;go_upto_region 3 with(go_at_call 177;refine a3.mono ?_;rintro i K⟨l,rfl,b6,be,ap⟩);obtain⟨bi,am,C,a1⟩:=ap.out;have af:=bm.out K bi am _ C;have ae:=Hu C e;have t:=au.out l be;have F:=fun k x=>bj.out k K bi am _ x C;have ar:Hid (Kf V G H N am w K):=(aq.out.trans (Kf.of_par bh)).trans a1;simp only[bs] at af;clear C a1 ap ao bh a3 ah be au aq p;obtain⟨o,v⟩: ∃o,(e&& !(AC call e n ax).2.stop.isSome)=o:=⟨_,rfl⟩;rw[v] at ae t;have bx:o=true->L:=fun i=>bd (by rw[i] at v;simp at v;exact v.1);clear v;generalize(AC call e n ax).2=b4 at*;have b1:((l==0)=true/\(l !=0)=false)\/((l==0)=false/\(l !=0)=true):=by cases q:(l==0)<;>simp[bne,q]
  have m:(∃k,k=o/\(k&&(l !=0))=false)\/(o=true/\(l !=0)=true):=by
   cases o
   ·exact .inl ⟨_,rfl,rfl⟩
   ·cases b5:(l !=0)
    ·exact .inl ⟨_,rfl,rfl⟩
    ·exact .inr ⟨rfl,rfl⟩
  rcases m with⟨k,rfl,m⟩|⟨rfl,m⟩
  ·have bl:Hid _:=t.1 m;have M:=F false (fun i=>by cases i);rw[JU rfl] at M;clear t F;rcases b1 with⟨b0,bf⟩|⟨b0,bf⟩<;>cases k;all_goals try(exfalso;rw[bf] at m;cases m;done)
   all_goals(
    clear m;go_wp2_with(first|(go_at_call 123;refine Aq af ?_)|(go_at_call 178;refine Aq ae ?_)|(go_at_call 151;refine M.mono ?_;rintro i b3⟨rfl,aa⟩));go_ret;obtain⟨al,an,ac,ad⟩:=aa.out;rw[<-av.out,bl.out]
    exact⟨rfl,al,an,ac,ar.out.trans ad⟩)
  ·have bb:=t.2 (by rw[m];rfl);have HQ:Hid _:=bb;have M:=F true (fun _=>bx rfl);clear t F bb;go_wp2_with(first|(go_at_call 123;refine Aq af ?_)|(go_at_call 178;refine Aq ae ?_)|(go_at_call 151;refine M.mono ?_;rintro i b3⟨rfl,aa⟩))
   go_roundg (gk -1)
   case rel=>
    obtain⟨al,an,ac,ad⟩:=aa.out;exact⟨_,al,an,⟨ac,ar.out.trans ad⟩,HQ.out.1.symm.trans av.out,HQ.out.2⟩
   case measure=>omega
variable{D K:World}{O:Value}
theorem RA.outA(d:RA V J cap B T c U Z G I H w A N S){k:Int}(j:Ay w D)(e:D.grownBy K N.ownBlock)(E:K.ownsRow (V+1) 3 1 O (S.out.length+1) (S.out.map (.int .i64)++[Aa k]))(y: ∀a,O.ownBlock=some a->N.ownBlock=some a\/w.heap.size<=a):
 RA V J cap B T c U Z G I H (K.setCell ⟨V,13,none⟩ O) A O {S with out:=S.out++[k]}/\Kf V G H N O w (K.setCell ⟨V,13,none⟩ O):=by
 have aa:=d.lt;have F:=d.tlt;have z:=d.low;have ae:=j.size;have h:=Oe.1 d.apt;have L: ∀a,N.ownBlock=some a->V<a:=fun a b=>(z N (by unfold BO;simp) a b).1;have p: ∀a,a<w.heap.size->a≠V->N.ownBlock≠some a->(K.setCell ⟨V,13,none⟩ O).heap[a]? =w.heap[a]? :=fun a n m W=>by rw[Below.heap_setCell _ _ _ _ m,e.block a (by omega) (fun b=>W b.symm)];exact j.block a n
 have M:K.heap[V]? =w.heap[V]? :=(e.block V (by omega) (fun b=>by have:=L _ b.symm;omega)).trans (j.block V aa);have l: ∀{b:TypeId}{Q:Nat}{k:Value}{P:Nat}{R:List Value},w.ownsRow (V+1) b Q k P R->Df N k->(K.setCell ⟨V,13,none⟩ O).ownsRow (V+1) b Q k P R:=fun q X=>Cq q fun a b=>p a (q.lt a b).2 (by have:=(q.lt a b).1;omega) (fun i=>X a i b);have C: ∀a,a<V->(K.setCell ⟨V,13,none⟩ O).heap[a]? =w.heap[a]? :=fun a b=>p a (by omega) (by omega) (fun i=>by have:=L _ i;omega);have ag:(K.setCell ⟨V,13,none⟩ O).heap.size=K.heap.size:=by simp[World.setCell]
 have af:=e.size;refine⟨⟨(d.cel.block M).set (o:=13) (by simp[Dy]) _,fun o=>by rw[Cu,World.frozen?_of_block (w:=w) M];exact d.frz o,fun ac ad Y=>by rw[World.cell?_of_block (w:=w) (C J F)];exact d.tok ac ad Y,F,d.siz,d.bud,d.use,⟨d.inp.1.kept (by omega) fun a b=>C a (d.inp.2 a b),d.inp.2⟩,l d.gro (h.1 _ (by simp)),l d.hro (h.1 _ (by simp)),⟨d.gv.1,fun a g e=> ?_⟩,⟨d.hv.1,fun a g e=> ?_⟩,?_,Oe.2 ⟨fun v f a b i=> ?_,h.2⟩,d.bnd,d.nd,fun g e=>l (d.cvr g e) (h.1 _ (by simp only[BD,CD];exact .inr ⟨g,e,rfl⟩)),d.cpi⟩,⟨⟨?_,?_,?_,by omega,fun a n m=> ?_⟩,y⟩⟩
 ·obtain⟨r,s,t,u⟩:=d.gv.2 a g e;exact⟨r,s,t,l u (h.1 _ (by simp only[BD,CD];exact .inl (.inl (.inr ⟨g,Ct e,rfl⟩))))⟩
 ·obtain⟨r,s,t,u⟩:=d.hv.2 a g e;exact⟨r,s,t,l u (h.1 _ (by simp only[BD,CD];exact .inl (.inr ⟨g,Ct e,rfl⟩)))⟩
 ·rw[E6,AG];exact Cq E fun a b=>Below.heap_setCell _ _ _ _ (by have:=(E.lt a b).1;show a≠V;omega)
 ·rcases y a b with x|x
  ·exact h.1 v f a x i
  ·have ab:v∈BO Z I N G H:=by unfold BO;simp only[BD,C0,I0,Jl] at f⊢;rcases f with(((f|f)|f)|f)|f<;>simp[f]
   have:=(z v ab a i).2;omega
 ·show K.os=_;rw[e.os];exact j.os
 ·show K.tape=_;rw[e.tape];exact j.tape
 ·show K.output=_;rw[e.output];exact j.output
 ·exact p a n (fun b=>m (.inl b)) (fun b=>m (.inr (.inr b)))
theorem Ag0{a:Ex}{b c:Bool}(f:c=(b&& !S.stop.isSome&& !(S.unit B).stop.isSome)):
 Co B call b (.write a) S=if c&& !(AC call c a (S.due B b)).2.stop.isSome then(if 60<=(AC call c a (S.due B b)).2.out.length then(AC call c a (S.due B b)).2.fail 12 else{(AC call c a (S.due B b)).2 with out:=(AC call c a (S.due B b)).2.out++[(AC call c a (S.due B b)).1]}) else(AC call c a (S.due B b)).2:=by
 obtain⟨d,e⟩:=Nq (t:=.write a) (F:=fun S=>if(AB call a S).2.stop.isSome then(AB call a S).2 else if 60<=(AB call a S).2.out.length then(AB call a S).2.fail 12 else{(AB call a S).2 with out:=(AB call a S).2.out++[(AB call a S).1]}) (call:=call) (fun S=>by rw[Cr]) f;rw[d];cases c with
 |false=>rw[Ez rfl];simp
 |true=>
  rw[FM (e rfl)];cases(AB call a (S.due B b)).2.stop<;>simp
theorem AhR(Y:AR T)(X:Cj T)(be:Fj E G H)(ca:L->J9 E H)(c6:Jw call)(a:Nat)(bk:0<=d/\d<=14)(ad:XK E L V J cap B T c U Z G I H call 177 (d+1) (BA T none a))(bd:CK E L V J cap B T c U Z G I H call (d+1) (BA T none a))(ah:SK E L V J cap B T c U Z G I H call 151 (d+1) (AL T none a)):SK E L V J cap B T c U Z G I H call 151 d (AL T none (a+1)):=by
 intro w A N S s dy i x al c9 e de h ai;subst c9;have Q:=Lk (Ev Y none (a+1)) de e;have dw:=x.siz;have ds:(s.next:Int)<T.length:=by unfold An at al;omega
 obtain⟨b3,_,_⟩:=x.curCells al;have d3:w.cell? (Ac V 0)=some (Ar J T.length cap):=x.cel 0 _ rfl;have d4:w.cell? (Ac V 2)=some (Aa 0):=x.cel 2 _ rfl;have dr: ¬d>14:=by omega
 have ar:=Hw Y none a;have bi:=Hy Y none a;have bf:=Gp Y none a;have bh:=Ev Y none a;by_cases an:AN T .name s=true
 ·rw[AL,Ag an] at e h⊢;have cc:=Aff Y X ar bi bk be ca ad bd x al an Q i e h ai;have db:(Ad T s).kind=.name:=by simpa[AN] using an
  rw[db] at b3;simp only[TK.r] at b3;clear x e h ad bd ah be ca;unfold SP at cc⊢;generalize Co B call i (DE T none (BA T none a) s).1 S=ag at*;generalize(DE T none (BA T none a) s).2=n at*;go_enter func151,ntmps151;go_wp2_with(go_at_call 173;refine cc.mono ?_;rintro f D⟨rfl,k⟩);go_ret;exact⟨rfl,k.out⟩
 have cj:=Pc (Ad T s).kind;have du:((Ad T s).kind.r==1)=false:=by rw[cj];simpa[AN] using an
 rw[AL,Ae an] at e h⊢;have ac:=fun ab bl=>Dw x al rfl (bs ab) (X ab bl);have av:=ac [105,102] (by decide);have aw:=ac [119,104,105,108,101] (by decide);have ax:=ac [98,101,103,105,110] (by decide);have ay:=ac [119,114,105,116,101] (by decide);have az:=ac [114,101,97,100] (by decide);obtain⟨cu,C⟩: ∃v,Aj T IF s=v:=⟨_,rfl⟩;obtain⟨cv,P⟩: ∃v,Aj T IH s=v:=⟨_,rfl⟩;obtain⟨cw,ae⟩: ∃v,Aj T Bc s=v:=⟨_,rfl⟩;obtain⟨cx,ak⟩: ∃v,Aj T II s=v:=⟨_,rfl⟩;obtain⟨cy,au⟩: ∃v,Aj T IG s=v:=⟨_,rfl⟩;rw[C] at av;rw[P] at aw;rw[ae] at ax;rw[ak] at ay;rw[au] at az;simp only[bs] at av aw ax ay az;obtain⟨n,t,bu⟩: ∃(n:PS)(t:St),(if Aj T IF s then Dk T (BA T none a) (AL T none a) (Ab s) else if Aj T IH s then F6 T (BA T none a) (AL T none a) (Ab s) else if Aj T Bc s then(.block (AK T (AL T none a) (Ab s)).1,Am T By (AK T (AL T none a) (Ab s)).2) else if Aj T II s then(.write (BA T none a (Ab s)).1,(BA T none a (Ab s)).2) else if Aj T IG s then(.read (Ap T (Ab s)).1.1 (Ap T (Ab s)).1.2,Ea T none (Ab s)) else(.nil,AI T 4 s))=(t,n):=⟨_,_,rfl⟩;rw[bu] at e h⊢;have W:Hid (RA V J cap B T c U Z G I H w A N S):=x;have M:Hid _:=bu;clear x ac cj bu;generalize(Ad T s).kind.r=dz at*;unfold SP;obtain⟨ag,q⟩: ∃ag,ag=Co B call i t S:=⟨_,rfl⟩;show Calls _ _ _ _ fun cz a3=>cz=.returned (Aa (n.next:Nat))/\Hid (∃F O,RA V J cap B T c U Z G I H a3 F O (Co B call i t S)/\Kf V G H N O w a3);rw[<-q];have aa:Hid (ag=Co B call i t S):=q;clear q;go_enter func151,ntmps151;go_upto_region 8 with(go_at_call 94;refine Aq av ?_);go_upto_region 9 with(go_at_call 94;refine Aq aw ?_);go_upto_region 10 with(go_at_call 94;refine Aq ax ?_);go_upto_region 11 with(go_at_call 94;refine Aq ay ?_);go_upto_region 12 with(go_at_call 94;refine Aq az ?_);clear av aw ax ay az;have am: ∀ab:List UInt8,ab≠[]->Aj T (bs ab) s=true->An T (Ab s):=fun ab bl df=>AD Y al df (I6 _ bl);cases cu with
 |true=>
  have b:=M.out;rw[Ag C] at b;have m:=Ade Y X _ _ ar bf bi bh bk ad ah W.out (am _ (by simp) C) i Q (by rw[b];exact e) (by rw[b];exact h) ai;rw[b] at m;unfold SP at m;clear b;go_wp2_with(go_at_call 174;refine m.mono ?_;rintro f D⟨rfl,k⟩);go_ret;rw[aa.out];exact⟨rfl,k.out⟩
 |false=>
  cases cv with
  |true=>
   have b:=M.out;rw[Ae (by rw[C];simp),Ag P] at b;have m:=Ajq Y X _ _ ar bf bi bh bk c6 ad ah W.out (am _ (by simp) P) i Q (by rw[b];exact e) (by rw[b];exact h) ai;rw[b] at m;unfold SP at m;clear b;go_wp2_with(go_at_call 175;refine m.mono ?_;rintro f D⟨rfl,k⟩);go_ret;rw[aa.out];exact⟨rfl,k.out⟩
  |false=>
   cases cw with
   |true=>
    have b:=M.out;rw[Ae (by rw[C];simp),Ae (by rw[P];simp),Ag ae] at b;have g:St.block (AK T (AL T none a) (Ab s)).1=t:=C4 Prod.fst b;have j:Am T By (AK T (AL T none a) (Ab s)).2=n:=C4 Prod.snd b;rw[<-j] at e;obtain⟨ba,cf,b6⟩:=F5 e;rw[<-g,A5] at h;have bm:=LK ba Ai;have aq:=Qc Y X bf bh ah W.out (am _ (by simp) ae) i (A4 Q) cf h ai;have b0:Hid (∀(r:World)(F O:Value)(b2:RS),RA V J cap B T c U Z G I H r F O b2->Ah 123 #[Al V,Aa ((AK T (AL T none a) (Ab s)).2.next:Nat),.string By] r fun f a3=>f=.returned (Aa (((AK T (AL T none a) (Ab s)).2.next:Int)+1))/\a3=r):=fun r F O b2 a9=>GQ a9 bm rfl _ (X _ (by decide)) ba
    have b1:Hid (ag=Eb B call i (AK T (AL T none a) (Ab s)).1 S/\(n.next:Int)=((AK T (AL T none a) (Ab s)).2.next:Int)+1):=⟨by
     rw[aa.out,<-g];unfold Co Eb;split
     ·rw[Cr]
     ·rfl,by rw[<-j,b6];show(((AK T (AL T none a) (Ab s)).2.next+1:Nat):Int)=_;omega⟩
    rw[show(((Ab s).next:Nat):Int)=(s.next:Int)+1 by show((s.next+1:Nat):Int)=_;omega] at aq;unfold SP at aq;have dt:(AK T (AL T none a) (Ab s)).2.next<T.length:=bm
    clear b g j b6 cf ba bm h;generalize(AK T (AL T none a) (Ab s)).2=d0 at*;generalize Eb B call i (AK T (AL T none a) (Ab s)).1 S=dn at*;go_upto_region 18 with(go_at_call 122;refine aq.mono ?_;rintro f D⟨rfl,k⟩);obtain⟨cn,co,bc,b8⟩:=k.out;have cb:=b0.out D cn co _ bc;have cq:Hid _:=And.intro bc b8;simp only[bs] at cb;clear bc b8 k aq b0;go_wp2_with(go_at_call 123;refine Aq cb ?_);go_ret;rw[b1.out.1,b1.out.2];exact⟨rfl,cn,co,cq.out⟩
   |false=>
    cases cx with
    |true=>
     have b:=M.out;rw[Ae (by rw[C];simp),Ae (by rw[P];simp),Ae (by rw[ae];simp),Ag ak] at b;have g:St.write (BA T none a (Ab s)).1=t:=C4 Prod.fst b;have j:(BA T none a (Ab s)).2=n:=C4 Prod.snd b;rw[<-j] at e;rw[<-g,A5] at h;have bo:=am _ (by simp) ak;have bq:=(ar _ bo).1;rw[j] at bq;obtain⟨o,R⟩: ∃o,o=(i&& !S.stop.isSome&& !(S.unit B).stop.isSome):=⟨_,rfl⟩;have bj:=Lm W.out i;rw[<-R] at bj;have ch:o=true->L:=fun f=>ai (by rw[R] at f;simp at f;exact f.1.1);have bg:=aa.out;rw[<-g,Ag0 R] at bg;have a6:Hid _:=bg;have a8:Hid (∀(r:World)(F O:Value),RA V J cap B T c U Z G I H r F O (S.due B i)->Ah 177 #[Al V,Aa ((s.next:Int)+1),Aa (d+1),.bool o] r (XP V J cap B T c U Z G I H call o (BA T none a (Ab s)).1 n.next (S.due B i) r O)):=fun r F O a9=>by have:=ad r F O _ (Ab s) ((s.next:Int)+1) o a9 bo (by show _=((s.next+1:Nat):Int);omega) e (A4 Q) h ch;rw[j] at this;exact this
     have dv:n.next<T.length:=bq;clear b g j h e R ch bg ad bd ah bo bq;unfold XP at a8;generalize(BA T none a (Ab s)).1=a4 at*;generalize S.due B i=ap at*;go_upto_region 21 with(go_at_call 176;refine bj.mono ?_;rintro f D⟨rfl,k,ck⟩);have cd:=a8.out D A N k.out;go_upto_region 22 with(go_at_call 177;refine cd.mono ?_;rintro f K⟨cm,rfl,dx,bv,bx⟩);obtain⟨bw,a2,l,b9⟩:=bx.out;have aj:=Hu l o;have a5:Hid (Kf V G H N a2 w K):=(Kf.of_par ck).trans b9;clear cd a8 bj k ck b9 bx aa M W;cases z:(o&& !(AC call o a4 ap).2.stop.isSome) with
     |false=>
      rw[z] at aj;have cr:Hid _:=l;have ct:Hid _:=z;clear l z bv;go_wp2_with(go_at_call 178;refine Aq aj ?_);go_ret;rw[a6.out,Ae (by rw[ct.out];simp)];exact⟨rfl,bw,a2,cr.out,a5.out⟩
     |true=>
      rw[z] at aj;have dg:o=true:=by cases o<;>simp_all
      subst dg
      have cg:(AC call true a4 ap).2.stop=none:=by
       cases c5:(AC call true a4 ap).2.stop with
       |none=>rfl
       |some d6=>rw[c5] at z;simp at z
      have q:=a6.out;rw[Ag z,<-bv rfl cg] at q;have cl:K.cell? (Ac V 13)=some a2:=l.cel 13 _ rfl;have c0:=l.frz 13;obtain⟨a0,a1,af,_⟩:=D9 l.oro;rw[af] at cl;clear z bv a6;generalize(AC call true a4 ap).2=p at*;by_cases b7:60<=p.out.length
      ·rw[Ag b7] at q;have a7:Hid _:=q;have c7:=Mb l cg 12;have c4:(p.out.length:Int)>=60:=by omega
       clear l q af;go_wp2_with(first|(go_at_call 178;refine Aq aj ?_)|(go_at_call 179;refine c7.mono ?_;rintro f d5⟨rfl,cp,dl⟩));go_ret;rw[a7.out];exact⟨rfl,bw,a2,cp.out,a5.out.trans (Kf.of_par dl)⟩
      ·rw[Ae b7] at q;have a7:Hid _:=q;have c4: ¬(p.out.length:Int)>=60:=by omega
       have br:=l.oro;rw[af] at br;have dc:=l.lt;have cs:Hid (∀(u:World)(ao:Value)(y:Obj),u.ownsRow (V+1) 3 1 ao (p.out.length+1) (p.out.map (.int .i64)++[Aa cm])->(K.alloc y).grownBy u (Value.slice a0 p.out.length a1).ownBlock->(ao.ownBlock=(Value.slice a0 p.out.length a1).ownBlock\/ ∀a,ao.ownBlock=some a->(K.alloc y).heap.size<=a)->_):=fun u ao y c2 bb c3=>l.outA ((Below.refl K.heap.size K).alloc (AA _) y) (by rw[af];exact bb) c2 (fun a f=>c3.elim (fun g=>.inl (by rw[af];exact g.symm.trans f)) (fun g=>.inr (AT (by simp) (g a f))));have dd: ∀(u:World)(y:Obj),(K.alloc y).grownBy u (Value.slice a0 p.out.length a1).ownBlock->u.cell? (Ac V 13)=some (.slice a0 p.out.length a1)/\u.frozen? (Ac V 13)=false:=fun u y bb=>by have ce:u.heap[V]? =K.heap[V]? :=(bb.block V (by simp;omega) (fun f=>by have:=(br.lt V f.symm).1;omega)).trans (((Below.refl K.heap.size K).alloc (AA _) y).block V dc);exact⟨by rw[World.cell?_of_block (w:=K) ce];exact cl,by rw[World.frozen?_of_block (w:=K) ce];exact c0⟩
       obtain⟨dk,da,dh,di,dj⟩:=info_parts Tryz.infoInt;clear l q af
       go_wp2_with(first
        |(go_at_call 178;refine Aq aj ?_)
        |(at_builtin;refine Gw rfl _ _ 23 rfl (V+1) 3 dk _ 1 8 underlying23 da dh di dj rfl (by decide) _ p.out.length (p.out.map (.int .i64)) rfl (br.alloc _) (Ac _ 0) 1 1 [Aa cm] rfl rfl (cell_one_new _ _ _) ?ah1 ?ah63 ?ahby ?ahbase ?ahh
          case ah1=>intro o R;simp at R;subst R;rfl
          case ah63=>unfold maxLen;omega
          case ahby=>omega
          case ahbase=>simp;omega
          intro ao dm bt bn ci;obtain⟨dp,dq,rfl,_⟩:=D9 bt;obtain⟨d1,d2⟩:=dd _ _ bn;have bz:Hid _:=cs.out dm _ _ bt bn ci
          clear bt bn ci))
       go_ret;rw[a7.out];exact⟨rfl,bw,_,bz.out.1,a5.out.trans bz.out.2⟩
    |false=>
     cases cy with
     |true=>
      have b:=M.out;rw[Ae (by rw[C];simp),Ae (by rw[P];simp),Ae (by rw[ae];simp),Ae (by rw[ak];simp),Ag au] at b;have g:St.read (Ap T (Ab s)).1.1 (Ap T (Ab s)).1.2=t:=C4 Prod.fst b;have j:Ea T none (Ab s)=n:=C4 Prod.snd b
      have bp:AN T .name (Ab s)=true:=by
       cases c8:AN T .name (Ab s) with
       |true=>rfl
       |false=>
        exfalso;rw[<-j] at e;unfold Ea AI at e;rw[c8] at e;have c1:(Ab s).code=0:=Q;simp[c1] at e
      rw[Kn bp] at g;have b4:n.next=s.next+2:=by rw[<-j];unfold Ea;rw[Ag bp];rfl
      rw[<-g] at h;have m:=Agk (call:=call) be W.out (am _ (by simp) au) bp i h;rw[<-b4] at m;have b5:St.read (Ad T (Ab s)).text (Ad T (Ab s)).pos=t:=g;rw[b5] at m;unfold SP at m;clear b g j b4 b5 h;go_wp2_with(go_at_call 180;refine m.mono ?_;rintro f D⟨rfl,k⟩);go_ret;rw[aa.out];exact⟨rfl,k.out⟩
     |false=>
      exfalso;have b:=M.out;rw[Ae (by rw[C];simp),Ae (by rw[P];simp),Ae (by rw[ae];simp),Ae (by rw[ak];simp),Ae (by rw[au];simp)] at b;have j:AI T 4 s=n:=C4 Prod.snd b;rw[<-j] at e;unfold AI at e;simp[Q] at e
end
def AaG(T:List Az)(gl:List Gl)(G:List GC)(a:GC):Prop:=
 ∃(b:Ro)(E:Ao)(c:PS),(∀d:Af,d.toList=a.name.toList->DL gl d=some (decide (a.kind=3),b))/\b.name.1=a.name/\a.cs=b.cells/\Pk a.cs/\c.next=a.body/\An T c/\Av T c/\(AK T (AL T none 14) c).2.code=0/\(AK T (AL T none 14) c).1=b.body/\Bz E b.body=none/\ ∀H,H.map GC.sy=a.sys->Fj E G H/\J9 E H
def GS(T:List Az)(gl:List Gl)(G:List GC):Prop:= ∀(b:Nat)(a:GC),G[b]? =some a->a.kind=2\/a.kind=3->AaG T gl G a
section
variable{V J cap B:Nat}{T:List Az}{gl:List Gl}
section
variable{E:Ao}{L:Prop}{c:Nat}{U:Int}{Z:Value}{G:List GC}{I:Value}{H:List GC}{call:Dr}{F:Nat}{d:Int}
theorem Ajv:XK E L V J cap B T c U Z G I H call F d (Bk T none 0):=by
 intro w A N S s h i e f g a;exfalso;have b:(Bk T none 0 s).2=AI T 5 s:=by rw[Bk]
 rw[b] at a;unfold AI at a;split at a
 ·cases a
 ·contradiction
theorem Ahy:SK E L V J cap B T c U Z G I H call F d (AL T none 0):=by
 intro w A N S s h i e f g a;exfalso;have b:(AL T none 0 s).2=AI T 5 s:=by rw[AL]
 rw[b] at a;unfold AI at a;split at a
 ·cases a
 ·contradiction
end
theorem Aju(Y:AR T)(X:Cj T){E:Ao}{L:Prop}{c:Nat}{U:Int}{Z:Value}{G:List GC}{I:Value}{H:List GC}{call:Dr}{d:Int}(f:Nat)(hF:XK E L V J cap B T c U Z G I H call 225 d (Bk T none f)):XK E L V J cap B T c U Z G I H call 177 d (BA T none f):=by
 have b:=Gm Y none f;have e:=Fi Y none f;have g: ∀i:List Af,(∀a∈i,∃j∈JG,a=bs j)-> ∀a∈i,Fx T a:=fun i l a h=>by obtain⟨j,o,rfl⟩:=l a h;exact X j o
 have h:=AiL Y hF b e (g Db (by unfold Db;simp only[C0,I0,Jl];rintro a(rfl|rfl|rfl)<;>exact⟨_,by decide,rfl⟩));have m:=Aiv Y h (Kl Y b) (Kw Y e) (g C9 (by unfold C9;simp only[C0,I0,Jl];rintro a(rfl|rfl)<;>exact⟨_,by decide,rfl⟩));have n:=AiN Y m (Kk Y b) (Lj Y e) (g C5 (by unfold C5;simp only[C0,I0,Jl];rintro a(rfl|rfl|rfl|rfl)<;>exact⟨_,by decide,rfl⟩));have k:=Aa4 Y n (Km Y b) (Kx Y e) (X _ (by decide));exact Acp Y k (Ki Y b) (Ku Y e) (X _ (by decide))
theorem Y9{call:Dr}{a:List St}{S:RS}(b:S.stop=none):Eb B call true a S=Dp B call a S:=by unfold Eb;rw[b];rfl
def Rh(V J cap B:Nat)(T:List Az)(gl:List Gl)(b:Nat):Prop:=
 ∀(c:Nat),c+b=30-> ∀(U:Int)(Z:Value)(G:List GC)(I:Value)(H:List GC)(E:Ao)(L:Prop),Fj E G H->(L->J9 E H/\GS T gl G)-> ∀(a:Nat)(d:Int),a<=14->d+a=15->
  XK E L V J cap B T c U Z G I H (Ef B gl b) 225 d (Bk T none a)/\SK E L V J cap B T c U Z G I H (Ef B gl b) 151 d (AL T none a)
theorem Abx(Y:AR T)(X:Cj T){e c:Nat}(bb:c+e=30)(af: ∀Q,e=Q+1->Rh V J cap B T gl Q){U:Int}{Z:Value}{G:List GC}{I:Value}{H:List GC}{E:Ao}{L:Prop}(ag:L->J9 E H/\GS T gl G)(h:Nat){d:Int}(r:XK E L V J cap B T c U Z G I H (Ef B gl e) 177 d (BA T none h)):CK E L V J cap B T c U Z G I H (Ef B gl e) d (BA T none h):=by
 intro w A N S s z a3 a o t x i m u y q;cases e with
 |zero=>
  exact RQ (bd:=fun _ S=>(0,S)) Y X r (Hw Y none h) (Hy Y none h) o t x z i m u y q (fun _ f b=>by rw[Ef]) (fun K _=>by omega) (fun K _=>by omega)
 |succ e=>
  by_cases p:L
  ·obtain⟨_,D⟩:=ag p;obtain⟨j,R,a4,av,P,v,au,ax,an,ay,ap,F,aq,ad⟩:=D a3 a i.1 m;have aw:=av (Ad T s).text i.2.1.symm;have M:a.own=j.own (decide (a.kind=3)):=by unfold GC.own Ro.own AS;rw[v,P]
   have al: ∀f,a.ent f=j.enter (decide (a.kind=3)) f:=fun f=>by unfold GC.ent Ro.enter IA;rw[M,v,P]
   exact RQ (bd:=fun f k=>(j.result (decide (a.kind=3)) (Eb B (Ef B gl e) true j.body {k with here:=a.ent f}).here,{Eb B (Ef B gl e) true j.body {k with here:=a.ent f} with here:=k.here})) Y X r (Hw Y none h) (Hy Y none h) o t x z i m u y q (fun am=>by omega) (fun _ _ f b az=>by
    rw[Ef,aw];by_cases l:(decide (a.kind=3)&&(b.unit B).stop.isSome)=true
    ·rw[Ag l,Ag l]
    ·rw[Ae l,Ae l];have aa:(if decide (a.kind=3)=true then b.unit B else b)=(if a.kind=3 then b.unit B else b):=by by_cases g:a.kind=3<;>simp[g]
     have ar:(if a.kind=3 then b.unit B else b).stop=none:=by
      by_cases g:a.kind=3
      ·rw[Ag g];simpa[g] using l
      ·rw[Ae g];exact az
     have ao:(if a.kind=3 then b.unit B else b).here=b.here:=by
      by_cases g:a.kind=3
      ·rw[Ag g];unfold RS.unit;split<;>rfl
      ·rw[Ae g]
     dsimp only;rw[aa];generalize(if a.kind=3 then b.unit B else b)=k at*
     rw[Y9 (S:={k with here:=a.ent f}) ar,al,ao]) (fun K n a8 bd O bc b f ah a2 a1=>by
    have:=Abs ah i.1 (hcn:=au) a2 (by omega) (nx:=(AK T (AL T none 14) a4).2.next) (rn:=Eb B (Ef B gl e) true j.body) (fun a9 be bf a6 a7 C ai ae=>by
     obtain⟨ab,ac⟩:=ad C ae;have aj:=(af e rfl (c+1) (by omega) U Z G a6 C R True ab (fun _=>⟨ac,D⟩) 14 1 (by omega) (by omega)).2;have:=Qc Y X (Gp Y none 14) (Ev Y none 14) aj ai an true ay ap (by rw[F];exact aq) (fun _=>trivial);rw[ax,F] at this
     exact this) a1
    refine this.mono ?_;rintro ba bg⟨a5,rfl,a0,ak,W⟩;refine⟨a5,rfl,a0,?_,W⟩;rw[ak];unfold Ro.result
    rw[M,v])
  ·exact RQ (bd:=fun _ S=>(0,S)) Y X r (Hw Y none h) (Hy Y none h) o t x z i m u y q (fun am=>by omega) (fun _ n=>absurd n p) (fun _ n=>absurd n p)
section
variable(Y:AR T)(C: ∀t∈T,t.val<=2147483647)(X:Cj T)
include Y C X
theorem Xj{b c:Nat}(m:c+b=30)(j: ∀i,b=i+1->Rh V J cap B T gl i){U:Int}{Z:Value}{G:List GC}{I:Value}{H:List GC}{E:Ao}{L:Prop}(g:Fj E G H)(h:L->J9 E H/\GS T gl G): ∀(a:Nat)(d:Int),a<=14->d+a=15->
 XK E L V J cap B T c U Z G I H (Ef B gl b) 225 d (Bk T none a)/\SK E L V J cap B T c U Z G I H (Ef B gl b) 151 d (AL T none a):=by
 intro a;induction a with
 |zero=>exact fun d _ _=>⟨Ajv,Ahy⟩
 |succ a n=>
  intro d q p;obtain⟨hF,l⟩:=n (d+1) (by omega) (by omega);have e:=Aju Y X a hF;have f:=Abx Y X m j h a e;have k:=Afp Y X (Hw Y none a) (by omega) g e f;exact⟨Acw Y C X a (by omega) hF e k,AhR Y X g (fun o=>(h o).1) (PV B gl b) a (by omega) e f l⟩
theorem Xk: ∀a,Rh V J cap B T gl a:=by
 intro a;induction a with
 |zero=>
  intro c e U Z G I H E L b d f;exact Xj Y C X e (fun g h=>by omega) b d f
 |succ a i=>
  intro c e U Z G I H E L b d f
  exact Xj Y C X e (fun g h=>by have:g=a:=by omega
                                subst this;exact i) b d f
end
end
