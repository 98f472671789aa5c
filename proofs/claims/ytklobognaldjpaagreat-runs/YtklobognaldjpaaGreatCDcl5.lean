/- The reference's walk as it runs: behind var. The reference's -/
import Derived.Test.YtklobognaldjpaaGreatCRx36
set_option maxRecDepth 1000000
set_option maxHeartbeats 8000000
namespace Go.Proofs.YtklobognaldjpaaGreat
open Go.Proofs.Tryz
open Go.RowKit
section
variable{wb tb cap B:Nat}{T:List Az}{c:Nat}{U:Int}{K:Value}{G:List GC}{X:Value}{H:List GC}{w D:World}{J Y:Value}{S:RS}
theorem WE(O:AR T){s:PS}(b:s.code=0)(h:(AE T s).2.code=0):AN T .name s=true/\((Aj T BL (Ab s)=false/\AE T s=(.var (Ad T s).text (Ad T s).pos,Ab s))\/(Aj T BL (Ab s)=true/\AN T .number (Ab (Ab s))=true/\Aj T Cn (Ab (Ab (Ab s)))=true/\AE T s=(.arr (Ad T s).text (Ad T s).pos (Ad T (Ab (Ab s))).val (Ad T (Ab (Ab s))).pos,Ab (Ab (Ab (Ab s)))))):=by
 have f:Av T s:=fun h=>absurd b h;have g:=In O s f
 have e:(Ap T s).2.code=0:=by
  unfold AE at h;cases a:Aj T BL (Ap T s).2 with
  |true=>exact Cp O g.1 Ai a
  |false=>rw[a] at h;exact h
 have c:=Tz b e;refine⟨c,?_⟩;unfold AE at h⊢;rw[Kn c] at h⊢;cases a:Aj T BL (Ab s) with
 |false=>exact .inl ⟨rfl,by simp⟩
 |true=>
  rw[a] at h;simp only[Hr] at h⊢;obtain⟨D,k,d⟩:=F5 h;obtain⟨i,j⟩:=Afs (s:=Ab (Ab s)) b k;rw[j] at D d⊢;exact .inr ⟨trivial,i,D,by rw[d]⟩
theorem Aje(O:AR T)(Z:Cj T)(h:RA wb tb cap B T c U K G X H w J Y S){s:PS}(I:An T s)(b9:s.code=0)(az:(BP T s).2.code=0){i:Ao}(bf:i.glob=G.map GC.sy)(a3:(AO i (BP T s).1).2=none)(b8:G.length<=s.next):
 Ah 96 #[Al wb,Aa (s.next:Nat)] w fun j V=>j=.returned (Aa ((BP T s).2.next:Nat))/\Hid (IW wb tb cap B T c U G X H J Y S i w (BP T s).1 V/\G.length+(BP T s).1.length<=(BP T s).2.next):=by
 have cy:=h.siz;have b0:Hid (IW wb tb cap B T c U G X H J Y S i w [] w):=⟨K,[],by simpa using h,by rw[AO];simpa using bf.symm,fun ck I=>(by cases I),rfl,Below.refl _ _⟩;have cu: ∀w,(Instr.makeSlice 23 (Aa 1) (Aa 1)).run prog w=.ok (Ar w.heap.size 1 1) (w.alloc (.cells #[Aa 0] 3)):=fun _=>by kernel_rfl
 obtain⟨f,bg⟩: ∃f,f=Bw T T.length [(AE T s).1] (AE T s).2:=⟨_,rfl⟩;have bo:BP T s=(f.1,Am T AQ f.2):=by unfold BP;rw[<-bg]
 rw[bo] at az a3⊢;obtain⟨au,ca,ar⟩:=F5 az;have bl:=LK au Ai;have b4:Hid (∀(k:World)(e:Value)(r:List GC)(u:RS),RA wb tb cap B T c U e r X H k J Y u->Ah 123 #[Al wb,Aa (f.2.next:Nat),.string AQ] k fun j V=>j=.returned (Aa ((f.2.next:Int)+1))/\V=k):=fun k e r u W=>GQ W bl rfl _ (Z _ (by decide)) au;have R:(((Am T AQ f.2).next:Nat):Int)=(f.2.next:Int)+1:=by rw[ar];show((f.2.next+1:Nat):Int)=_;omega
 have bd:(Am T AQ f.2).next=f.2.next+1:=by rw[ar];rfl
 have b3:Hid (∀v E x,f.1=v++E::x->(AO i (v++[E])).2=none/\(Ce (AO i v).1 E).2=none):=fun v E x j=>by
  have L:(AO i (v++[E]++x)).2=none:=by rw[DO];show(AO i (v++E::x)).2=none;rw[<-j];exact a3
  have M:=(JO _ i x L).1;have be:=(JO v i [E] M).2.1;rw[Nd] at be;exact⟨M,be⟩
 rw[R,bd];have cn:f.2.next<T.length:=bl;clear h a3 bf az ar R bd au bo;go_enter func96,ntmps96;go_wp2;go_loopw [1,5,6,7,8,9,10] (fun t _ _ _ _ _ _ wr=> ∃(a:PS)(d:List Gl)(n:Nat),t=Aa (a.next:Nat)/\An T a/\a.code=0/\T.length<=a.next+n/\G.length+d.length<=a.next/\Hid (Bw T n (d++[(AE T a).1]) (AE T a).2=f)/\Hid (IW wb tb cap B T c U G X H J Y S i w d wr)) (fun t _ _ _ _ _ _ _=>T.length -(intOf t).toNat)
 case atStart=>exact⟨s,[],T.length,rfl,I,b9,by omega,by simpa using b8,bg.symm,b0.out⟩
 case round=>
  obtain⟨a,d,n,rfl,A,ax,cx,cl,F,a8⟩:=hrel;have cm:a.next<T.length:=A;have cd:Av T a:=fun h=>absurd ax h
  have ay:(AE T a).2.code=0:=by
   cases p:Aj T Bx (AE T a).2 with
   |true=>
    have ce:Av T (AE T a).2:=by
     have bw:=In O a cd;unfold AE;split
     ·rename_i ab;have b5:=Cp O bw.1 Ai ab;exact Kz O (OU O _ (A4 b5)).1 Ai
     ·exact bw.1
    exact Cp O ce Ai p
   |false=>
    have j:Bw T n (d++[(AE T a).1]) (AE T a).2=(d++[(AE T a).1],(AE T a).2):=by cases n<;>simp[Bw,p]
    have:=F.out;rw[j] at this;rw[show(AE T a).2=f.2 from C4 Prod.snd this];exact ca
  obtain⟨bp,a1⟩:=WE O ax ay;have a0:=JJ O A bp;have co:a.next+1<T.length:=a0;obtain⟨C,D⟩:(AO i (d++[(AE T a).1])).2=none/\(Ce (AO i d).1 (AE T a).1).2=none:=by obtain⟨x,ab⟩:=WG n (d++[(AE T a).1]) (AE T a).2;exact b3.out d (AE T a).1 x (by rw[<-show(Bw T n (d++[(AE T a).1]) (AE T a).2).1=f.1 from C4 Prod.fst F.out,ab];simp)
  have cb:(Ad T a).kind.r=1:=by
   have:(Ad T a).kind=.name:=by simpa[AN] using bp
   rw[this];rfl
  obtain⟨c1,t,o,ac,a5,am,av⟩:=a8.out;have cf:=o.lt;have a7:wr.cell? (Ac wb 2)=some (Aa 0):=o.cel 2 _ rfl;have bj:=OF o A rfl cb;have a2:(G++t).length<=600:=by rw[AG,am];omega
  have bb:Hid (∀(k:World),Ay wr k->Ah 94 #[Al wb,Aa ((a.next:Int)+1),.string BL] k fun j V=>j=.returned (.bool (Aj T BL (Ab a)))/\V=k):=fun k ab=>Dw (o.below ab) a0 (by show _=((a.next+1:Nat):Int);omega) _ (Z _ (by decide));have y: ∀l b:Obj,Ay wr ((wr.alloc l).alloc b):=fun l b=>AP.alloc (by simp) _;have ah:=fun l b:Obj=>bb.out _ (y l b);have a9:Hid (∀(k:World)(e:Value)(r:List GC)(u:RS),RA wb tb cap B T c U e r X H k J Y u->Ah 94 #[Al wb,Aa ((AE T a).2.next:Nat),.string Bx] k fun j V=>j=.returned (.bool (Aj T Bx (AE T a).2))/\V=k):=fun k e r u W=>Dw W (K5 O a A).1 rfl _ (Z _ (by decide));obtain⟨bx,bv⟩: ∃bx,Aj T BL (Ab a)=bx:=⟨_,rfl⟩;rw[bv] at ah a1;simp only[bs] at ah;clear bb;go_upto_if 25 with(first|(go_at_call 124;refine Aq bj ?_)|(go_at_call 94;refine Aq (ah _ _) ?_));have bk: ∀b:Obj,((wr.alloc (.cells #[Aa 0] 3)).alloc b).heap[wr.heap.size]? =some (.cells #[Aa 0] 3):=fun b=>by rw[((Below.refl _ _).alloc (AA _) b:Below (wr.alloc (.cells #[Aa 0] 3)).heap.size _ _).block wr.heap.size (by simp)];exact heap_alloc_new _ _
  clear ah bj
  go_cut [1,8,9] from 11 to 87 (fun bz _ _ ci=>bz=Aa ((AE T a).2.next:Nat)/\Hid (IW wb tb cap B T c U G X H J Y S i w (d++[(AE T a).1]) ci))
  case first=>
   rcases a1 with⟨rfl,q⟩|⟨rfl,bu,b7,q⟩
   ·rw[q] at C D;obtain⟨z,aa⟩:=MH (show(Be (AO i d).1 false (Ad T a).text (Ad T a).pos 0 0).2=none from D);rw[<-ac] at z;have P:=fun b=>R6 o (y (.cells #[Aa 0] 3) b) (xs:=[0]) rfl (OJ (AA _) (bk b)) A ⟨#[]⟩ 0 0 z a2 (fun cg a6=>by rw[Hk.1 a6];exact⟨by omega,by omega⟩);have af:Hid (∀(m:World)(e:Value)(b:Obj),RA wb tb cap B T c U e (G++t++[⟨(Ad T a).text,0,Ar wr.heap.size 1 1,0,Aw,0,[]⟩]) X H m J Y {S with glob:=S.glob++d.map Ff++[⟨(Ad T a).text,[0]⟩]}->Below wb ((wr.alloc (.cells #[Aa 0] 3)).alloc b) m->IW wb tb cap B T c U G X H J Y S i w (d++[(AE T a).1]) m):=fun m e b L M=>by rw[q];exact IW.more (it:=.var (Ad T a).text (Ad T a).pos) L ac (.inl ⟨rfl,_,_,rfl⟩) C (by rw[show(Ce (AO i d).1 (.var (Ad T a).text (Ad T a).pos)).1=_ from aa];rfl) a5 am (av.trans (((y _ b).mono (by omega)).trans M))
    have R:(((AE T a).2.next:Nat):Int)=(a.next:Int)+1:=by rw[q];show((a.next+1:Nat):Int)=_;omega
    have ap:Hid _:=R;unfold EP at P;clear q o R C D z aa;go_wp2_with(go_at_call 125;refine(P _).mono ?_;rintro j m⟨rfl,ae⟩);go_meet;obtain⟨e,N,ag⟩:=ae.out;exact⟨by rw[ap.out],af.out m e _ N ag⟩
   ·have ak:=AD O a0 (show Aj T BL (Ab a)=true from bv) Ai;have cp:a.next+2<T.length:=ak;have bm:=EZ O ak bu (by decide);have cq:a.next+3<T.length:=bm;rw[q] at C D;obtain⟨bq,al⟩:=Bq (show((Be (AO i d).1 false (Ad T a).text (Ad T a).pos 1 0).2.or (F1 (Ad T (Ab (Ab a))).val (Ad T (Ab (Ab a))).pos))=none from D);obtain⟨z,aa⟩:=MH bq;rw[<-ac] at z;obtain⟨g,a4⟩: ∃g,g=(Ad T (Ab (Ab a))).val:=⟨_,rfl⟩
    have br:g<=20:=by
     unfold F1 at al;split at al
     ·cases al
     ·omega
    have cc:(Ad T (Ab (Ab a))).kind.r=2:=by
     have:(Ad T (Ab (Ab a))).kind=.number:=by simpa[AN] using bu
     rw[this];rfl
    have bi:=fun l b:Obj=>OF (o.below (y l b)) ak (i:=(a.next:Int)+1+1) (by show _=((a.next+1+1:Nat):Int);omega) cc;have cv:=XL g br;have ct:min (g:Int) 20=(g:Int):=by omega
    have c0:wr.cell? (Ac wb 0)=some (Ar tb T.length cap):=o.cel 0 _ rfl;have cj:wr.cell? (Ac tb ((a.next+1+1)*4+1))=some (Aa (g:Nat)):=by rw[a4];exact(o.curCells ak).2.1
    have cz:tb<wr.heap.size:=by have:=o.tlt;omega
    have ba:Hid (∀(l b:Obj),Ah 125 #[Al wb,Aa (a.next:Nat),.bool false,EP ⟨#[]⟩ 1 (some (Ac (wr.heap.size+2) 0)) g g 0] (((wr.alloc l).alloc b).alloc (.cells (List.replicate g (Aa 0)).toArray 3)) fun j V=>j=.returned A6/\Hid (∃ch,RA wb tb cap B T c U ch (G++t++[⟨(Ad T a).text,1,Ar (wr.heap.size+2) g g,0,Aw,0,[]⟩]) X H V J Y {S with glob:=S.glob++d.map Ff++[⟨(Ad T a).text,List.replicate g 0⟩]}/\Below wb (((wr.alloc l).alloc b).alloc (.cells (List.replicate g (Aa 0)).toArray 3)) V)):=fun l b=>R6 o ((y l b).alloc (by simp;omega) _) (xs:=List.replicate g 0) (by simp) (by
     have:=AfO (w:=((wr.alloc l).alloc b).alloc (.cells (List.replicate g (Aa 0)).toArray 3)) (base:=wr.heap.size) (b:=wr.heap.size+2) (xs:=List.replicate g (Aa 0)) (by omega) (by simpa using br) (by have:=heap_alloc_new ((wr.alloc l).alloc b) (.cells (List.replicate g (Aa 0)).toArray 3);simpa using this)
     simpa using this) A ⟨#[]⟩ 1 0 z a2 (fun cg a6=>by rw[Rl a6];exact⟨by omega,by omega⟩)
    have af:Hid (∀(m:World)(e:Value)(l b aq:Obj),RA wb tb cap B T c U e (G++t++[⟨(Ad T a).text,1,Ar (wr.heap.size+2) g g,0,Aw,0,[]⟩]) X H m J Y {S with glob:=S.glob++d.map Ff++[⟨(Ad T a).text,List.replicate g 0⟩]}->Below wb (((wr.alloc l).alloc b).alloc aq) m->IW wb tb cap B T c U G X H J Y S i w (d++[(AE T a).1]) m):=fun m e l b aq L M=>by rw[q];rw[a4] at L;exact IW.more (it:=.arr (Ad T a).text (Ad T a).pos (Ad T (Ab (Ab a))).val (Ad T (Ab (Ab a))).pos) L ac (.inr rfl) C (by rw[show(Ce (AO i d).1 (.arr (Ad T a).text (Ad T a).pos (Ad T (Ab (Ab a))).val (Ad T (Ab (Ab a))).pos)).1=_ from aa];rfl) a5 am (av.trans ((((y l b).alloc (by simp;omega) aq).mono (by omega)).trans M))
    have bc:Hid (∀(k:World)(e:Value)(r:List GC)(u:RS),RA wb tb cap B T c U e r X H k J Y u->Ah 123 #[Al wb,Aa ((a.next:Int)+1+1+1),.string Cn] k fun j V=>j=.returned (Aa ((a.next:Int)+1+1+1+1))/\V=k):=fun k e r u W=>by have:=GQ W bm (i:=(a.next:Int)+1+1+1) (by show _=((a.next+1+1+1:Nat):Int);omega) Cn (Z _ (by decide)) b7;rw[show((((Ab (Ab (Ab a))).next:Nat):Int)+1)=(a.next:Int)+1+1+1+1 by show(((a.next+1+1+1:Nat):Int)+1)=_;omega] at this;exact this
    have ap:Hid ((((AE T a).2.next:Nat):Int)=(a.next:Int)+1+1+1+1):=by show _=_;rw[q];show((a.next+1+1+1+1:Nat):Int)=_;omega
    have P:=ba.out;unfold EP at P;clear q o C D z aa ba a4 bq al;go_upto_region 14 with(first|(go_at_call 124;refine Aq (bi _ _) ?_)|(go_at_call 125;refine(P _ _).mono ?_;rintro j m⟨rfl,ae⟩));obtain⟨e,N,ag⟩:=ae.out;have bz:m.cell? (Ac wb 1)=some (Aa 2):=N.cel 1 _ rfl;have bh:=bc.out m e _ _ N;have b1:Hid _:=af.out m e _ _ _ N ag;simp only[bs] at bh;clear N ag ae P bi af bc;go_wp2_with(go_at_call 123;refine Aq bh ?_);go_meet;exact⟨by rw[ap.out],b1.out⟩
  case rest=>
   obtain⟨rfl,an⟩:=hcut;clear o ac a5 am av C D a1 a8 bk y a7 cf a2;obtain⟨e,a7,aj,_⟩:=id an.out;have a7:wc.cell? (Ac wb 2)=some (Aa 0):=aj.cel 2 _ rfl;have Q:=a9.out wc e _ _ aj;have ai:=b4.out wc e _ _ aj;have bt:=K5 O a A;have cs:(AE T a).2.next<T.length:=bt.1
   have cw:a.next+1<=(AE T a).2.next:=by
    obtain⟨_,b6⟩:=WE O ax ay;rcases b6 with⟨_,j⟩|⟨_,_,_,j⟩<;>rw[j]
    ·exact AA _
    ·show a.next+1<=a.next+1+1+1+1;omega
   clear aj a9;cases p:Aj T Bx (AE T a).2 with
   |true=>
    rw[p] at Q;have bn:=AD O bt.1 p Ai;have cr:(AE T a).2.next+1<T.length:=bn
    obtain⟨ad,rfl⟩: ∃ad,n=ad+1:=⟨n -1,by omega⟩;have b2:Hid (Bw T ad ((d++[(AE T a).1])++[(AE T (Ab (AE T a).2)).1]) (AE T (Ab (AE T a).2)).2=f):=by have:=F.out;rw[Bw,Ag p] at this;exact this
    simp only[bs] at Q;clear F p ai;go_wp2_with(go_at_call 94;refine Aq Q ?_)
    go_roundw
    case rel=>exact⟨Ab (AE T a).2,_,ad,by show _=Value.int .i64 (((AE T a).2.next+1:Nat):Int);go_num,bn,ay,by show T.length<=(AE T a).2.next+1+ad;omega,by show _<=(AE T a).2.next+1;simp;omega,b2.out,an.out⟩
    case measure=>simp[intOf];omega
   |false=>
    rw[p] at Q;have aw:(d++[(AE T a).1],(AE T a).2)=f:=by rw[<-F.out];cases n<;>simp[Bw,p]
    have ao:Hid (d++[(AE T a).1]=f.1/\(AE T a).2.next=f.2.next):=⟨C4 Prod.fst aw,by rw[show(AE T a).2=f.2 from C4 Prod.snd aw]⟩;rw[<-ao.out.2] at ai;simp only[bs] at Q ai;clear F p aw;go_wp2_with(first|(go_at_call 94;refine Aq Q ?_)|(go_at_call 123;refine Aq ai ?_));go_ret;rw[<-ao.out.1,<-ao.out.2];exact⟨rfl,an.out,by simp;omega⟩
variable{V:World}
theorem RA.lastG{e i:GC}(h:RA wb tb cap B T c U K (G++[e]) X H w J Y S)(O:i.name=e.name)(Q:i.vv=e.vv)(ar:w.heap.size<=V.heap.size)(x: ∀a,K.ownBlock≠some a->e.cv.ownBlock≠some a->a<w.heap.size->V.heap[a]? =w.heap[a]?)(ao:V.ownsRow (wb+1) 207 6 K (G.length+1) ((G++[i]).flatMap GC.row))(an:V.ownsRow (wb+1) 9 1 i.cv i.cs.length (i.cs.map .string))(al: ∀a,i.cv.ownBlock=some a->e.cv.ownBlock=some a\/w.heap.size<=a):RA wb tb cap B T c U K (G++[i]) X H V J Y S:=by
 have ap:=h.lt;have aq:=h.low;have L:=h.apt;rw[show([K,X,Y]++(G++[e]).map GC.vv++H.map GC.vv++(G++[e]).map GC.cv)=BO K X Y (G++[e]) H from rfl,PJ.pairwise_iff (fun h=>KT h),Hm,Hm,Hm] at L;obtain⟨r,t,u,ak⟩:=L;have z: ∀f∈K::e.vv::e.cv::([X,Y]++G.map GC.vv++H.map GC.vv++G.map GC.cv),∀a,f.ownBlock=some a->wb<a/\a<w.heap.size:=fun f b a d=>aq f (PJ.mem_iff.2 b) a d;have au: ∀a,K.ownBlock=some a->wb<a:=fun a d=>(z K (by simp) a d).1;have M: ∀a,e.cv.ownBlock=some a->wb<a:=fun a d=>(z e.cv (by simp) a d).1;have R:=x wb (fun d=>by have:=au _ d;omega) (fun d=>by have:=M _ d;omega) ap
 have A: ∀{d:TypeId}{Z:Nat}{C:Value}{n:Nat}{aa:List Value},w.ownsRow (wb+1) d Z C n aa->C∈e.vv::([X,Y]++G.map GC.vv++H.map GC.vv++G.map GC.cv)->V.ownsRow (wb+1) d Z C n aa:=fun P m=>Cq P fun a d=>x a (fun g=>r _ (by rcases C0.1 m with rfl|m;simp;exact F8 _ (F8 _ m)) a g d) (fun g=>by
  rcases C0.1 m with rfl|m
  ·exact t e.cv (by simp) a d g
  ·exact u _ m a g d) (P.lt a d).2
 refine h.swapG ar (P:=fun a=>e.cv.ownBlock=some a) (fun a d=>⟨M a d,fun f b g=>u f (by simp only[BD] at b⊢;rcases b with b|b;exact .inl (.inl (.inl b));exact .inl (.inr b)) a d g⟩) (fun a _ ah ai aj=>x a ah ai aj) (h.cel.block R) (fun o=>by rw[World.frozen?_of_block (w:=w) R];exact h.frz o) (by rw[AG];exact ao) ⟨?_,fun a f b=> ?_⟩ (fun f b=> ?_) ?_ (fun av s=>h.bnd.1 av (Iu _ s)) ⟨fun j W l ad k am d=> ?_,by have:=h.nd.1.2;simpa using this⟩ rfl rfl rfl h.use
 ·have:=h.gv.1;simpa using this
 ·by_cases d:a<G.length
  ·rw[CR d] at b;obtain⟨D,E,F,I⟩:=h.gv.2 a f (by rw[CR d];exact b);exact⟨D,E,F,A I (by simp only[C0,BD,CD];exact .inr (.inl (.inl (.inr ⟨f,Ct b,rfl⟩))))⟩
  ·have y:=(BH.1 b).1;simp at y;have g:a=G.length:=by omega
   subst g;rw[CS (AA _),I2] at b;cases b;obtain⟨D,E,F,I⟩:=h.gv.2 G.length e (by simp);exact⟨D,E,by rw[O];exact F,by rw[Q];exact A I (by simp)⟩
 ·rcases BD.1 b with b|b
  ·exact A (h.cvr f (Iu _ b)) (by simp only[C0,BD,CD];exact .inr (.inr ⟨f,b,rfl⟩))
  ·rw[Hk.1 b];exact an
 ·rw[PJ.pairwise_iff (fun h=>KT h),Hm,Hm,Hm,Q]
  have v: ∀f∈K::e.vv::([X,Y]++G.map GC.vv++H.map GC.vv++G.map GC.cv),Df i.cv f:=fun f b a d g=>by
   rcases al a d with q|q
   ·rcases C0.1 b with rfl|b
    ·exact r e.cv (by simp) a g q
    ·rcases C0.1 b with rfl|b
     ·exact t e.cv (by simp) a g q
     ·exact u f b a q g
   ·have:=(z f (by rcases C0.1 b with rfl|b;simp;rcases C0.1 b with rfl|b;simp;exact F8 _ (F8 _ (F8 _ b))) a g).2;omega
  refine⟨fun f b=> ?_,fun f b=> ?_,fun f b=>v f (F8 _ (F8 _ b)),ak⟩
  ·rcases C0.1 b with rfl|b
   ·exact r _ (by simp)
   ·rcases C0.1 b with rfl|b
    ·exact KT (v K (by simp))
    ·exact r f (F8 _ (F8 _ b))
  ·rcases C0.1 b with rfl|b
   ·exact KT (v e.vv (by simp))
   ·exact t f (F8 _ b)
 ·have s: ∀(j:Nat)(l:GC),(G++[i])[j]? =some l-> ∃p,(G++[e])[j]? =some p/\p.name=l.name:=fun j l k=>by
   by_cases N:j<G.length
   ·rw[CR N] at k;exact⟨l,by rw[CR N];exact k,rfl⟩
   ·have y:=(BH.1 k).1;simp at y;have g:j=G.length:=by omega
    subst g;rw[CS (AA _),I2] at k;cases k;exact⟨e,by simp,O.symm⟩
  obtain⟨p,ab,ac⟩:=s j l k;obtain⟨ae,af,ag⟩:=s W ad am;exact h.nd.1.1 j W p ae ab af (by rw[ac,ag];exact d)
end
section
variable{T:List Az}(O:AR T)
include O
theorem Zy: ∀(n:Nat)(b:List A8)(s:PS),Av T s->Av T (Bp T n b s).2/\(s.code≠0->(Bp T n b s).2=s)
 |0,b,s,a=>by rw[Bp];exact⟨a,fun _=>rfl⟩
 |n+1,b,s,a=>by
  rw[Bp];split
  ·rename_i h;have c:=Cp O a Ai h;have e:=In O (Ab s) (A4 c);exact⟨(Zy n _ _ e.1).1,fun d=>absurd c d⟩
  ·exact⟨a,fun _=>rfl⟩
theorem TY:SM T (Bf T):=fun s a=>F3 (In O s a) (Zy O T.length [(Ap T s).1] (Ap T s).2)
theorem TZ:SM T (Cz T):=fun s a=>by
 unfold Cz;split
 ·exact⟨a,fun _=>rfl⟩
 ·exact TY O s a
theorem QO: ∀(n:Nat)(b:List A8)(s:PS),Av T s->Av T (B5 T n b s).2/\(s.code≠0->(B5 T n b s).2=s)
 |0,b,s,a=>by rw[B5];exact⟨a,fun _=>rfl⟩
 |n+1,b,s,a=>by
  rw[B5];split
  ·rename_i h;have c:=Cp O a Ai h;have e:=TY O (Ab s) (A4 c);exact⟨(QO n _ _ (Dq O Ai e.1).1).1,fun d=>absurd c d⟩
  ·exact⟨a,fun _=>rfl⟩
theorem Ag7{s:PS}(x:s.code=0)(h:(AZ T s).2.code=0): ∃(C B:List A8)(g i b:PS)(p:List St),
 AN T .name s=true/\Aj T Bl (Ab s)=true/\Cz T (Ab (Ab s))=(C,g)/\g.code=0/\Aj T AJ g=true/\B5 T T.length [] (Ab g)=(B,i)/\i.code=0/\Aj T Bc i=true/\AK T (AL T none 14) (Ab i)=(p,b)/\b.code=0/\Aj T By b=true/\Aj T AQ (Ab b)=true/\AZ T s=(⟨((Ad T s).text,(Ad T s).pos),C,B,p⟩,Ab (Ab b)):=by
 have N:Av T s:=fun h=>absurd x h;have L:=In O s N;have z:=Dq O (f:=Bl) Ai L.1;have M:=TZ O (Am T Bl (Ap T s).2) z.1;have P:=Dq O (f:=AJ) Ai M.1;have w:=QO O T.length [] (Am T AJ (ET T s).2) P.1;have A:=Dq O (f:=Bc) Ai w.1;have Q:=JZ O (OV O 14) (Am T Bc (Cx T s).2) A.1;unfold AZ at h⊢;obtain⟨a,o,c⟩:=F5 h;unfold BT at a o c⊢;obtain⟨j,d,e⟩:=F5 o;have D:(Am T Bc (Cx T s).2).code=0:=Lk (JZ O (OV O 14)) A.1 d;obtain⟨q,f,E⟩:=F5 D
 have F:(Am T AJ (ET T s).2).code=0:=by
  by_cases v:(Am T AJ (ET T s).2).code=0
  ·exact v
  ·have:=w.2 v;have H:(Cx T s).2=Am T AJ (ET T s).2:=this;rw[H] at f;exact f
 obtain⟨r,k,G⟩:=F5 F;have I:(Am T Bl (Ap T s).2).code=0:=Lk (TZ O) z.1 k;obtain⟨t,J,K⟩:=F5 I;have y:=Tz x J;have n:=Kn y;have l:ET T s=Cz T (Ab (Ab s)):=by unfold ET;rw[K,n]
 have m:Cx T s=B5 T T.length [] (Ab (Cz T (Ab (Ab s))).2):=by unfold Cx;rw[G,l]
 rw[n] at t;rw[l] at r k;rw[m] at q f;have u:Am T Bc (Cx T s).2=Ab (B5 T T.length [] (Ab (Cz T (Ab (Ab s))).2)).2:=by rw[E,m]
 rw[u] at a c j d e;rw[<-Hg] at a c j d e;refine⟨_,_,_,_,_,_,y,t,rfl,k,r,rfl,f,q,rfl,d,j,by rw[e] at a;exact a,?_⟩;rw[u,<-Hg,c,e,l,m,n];rfl
end
def F9(wb tb cap:Nat)(T:List Az)(N:World)(m:Option Nm)(env:Option Ao)(r:PS)(c:Ending)(V:World):Prop:=
 ∃(b:Int)(a:Option Nm),c=.returned (Aa b)/\At r b/\a.isSome=m.isSome/\(r.code=0->Ax a=env)/\RD wb tb cap T N a V r
theorem P1{T:List Az}{m d:Option Nm}{c:Bool}{e s:PS}{kind args:Nat}(h:Ax d=(BM T (Ax m) c e kind args s).1):d.isSome=m.isSome:=by
 have a:(BM T (Ax m) c e kind args s).1.isSome=(Ax m).isSome:=by
  unfold BM;split
  ·rename_i b;rw[b]
  ·rename_i b;rw[b];split
   ·split<;>rfl
   ·rfl
 rw[<-h] at a;unfold Ax at a;simpa using a
section
variable{wb tb cap:Nat}{T:List Az}{m:Option Nm}{n:Nm}{w N:World}{s:PS}
theorem U6{w V:World}(I:w.grownBy V none):Ay w V:=(Below.refl _ _).grown I (AA _) (fun b a=>by cases a)
theorem Qr(s:PS):Hd T .name s=(Ap T s).2:=by unfold Hd Ap;split<;>rfl
theorem Aft(s:PS):Hd T .number s=(BV T s).2:=by unfold Hd BV;split<;>rfl
theorem Ac8(h:RD wb tb cap T N m w s)(I:An T s)(c:s.code≠0)(d:Int):
 Ah 128 #[Al wb,Aa d] w fun a V=>a=.returned (Aa ((T.length -1:Nat):Int))/\V=w:=by
 have e:=h.rw.fault;have f:((s.code:Int)==0)=false:=by simp;omega
 have b:=Lc h.rw I;clear c;go_enter func128,ntmps128;go_wp2;go_loopw [1,5,6] (fun _ _ _ wr=>wr=w) (fun _ _ _ _=>0)
 case atStart=>rfl
 case round=>
  obtain rfl:=hrel;go_wp2_with(go_at_call 126;refine Aq b ?_);go_ret;exact⟨rfl,rfl⟩
section
variable(O:AR T)(Z:Cj T)(h:RD wb tb cap T N m w s)(I:An T s)
include O Z h I
theorem Ada(au:s.code=0)(av:Cb (Ax m) s):
 Ah 128 #[Al wb,Aa s.next] w (F9 wb tb cap T N m (C1 T (Ax m) s).1 (C1 T (Ax m) s).2):=by
 have a8:=h.rw.size;obtain⟨an,ah,ak,al,am⟩:=info_parts Tryz.infoInt;go_enter func128,ntmps128;go_wp2;go_loopw [1,5,6] (fun U _ _ wr=> ∃(a:PS)(b:Option Nm)(B:Nat),U=Aa (a.next:Int)/\RD wb tb cap T N b wr a/\b.isSome=m.isSome/\An T a/\a.code=0/\Cb (Ax b) a/\T.length<=a.next+B/\Hid (EC T B (DX T (Ax b) a).1 (DX T (Ax b) a).2=C1 T (Ax m) s)) (fun U _ _ _=>T.length -(intOf U).toNat)
 case atStart=>exact⟨s,m,T.length,rfl,h,rfl,I,au,av,by omega,rfl⟩
 case round=>
  obtain⟨a,b,B,rfl,o,ai,E,p,ae,a7,g⟩:=hrel;have a4:a.next<T.length:=E;have az:Av T a:=fun h=>absurd p h;have aw:=o.rw.fault;rw[p] at aw;have k:=LY O o.rw E az a.next (fun _=>rfl) .name 1 rfl (.inl (by decide));rw[Qr] at k;have X:Hid (b.isSome=m.isSome):=ai;clear ai;cases q:AN T .name a with
  |false=>
   have f:(Ap T a).2=AI T 4 a:=by unfold Ap;rw[Ae (by rw[q];simp)]
   have Y:(AI T 4 a).code=4:=by simp[AI,p]
   have M:(AI T 4 a).code≠0:=by rw[Y];decide
   have l:DX T (Ax b) a=(Ax b,AI T 4 a):=by unfold DX;rw[f,Vy M]
   have aj:Av T (AI T 4 a):=EL 4 a;have R:Aj T Bx (AI T 4 a)=false:=IT O aj M Ai;have G:Hid (C1 T (Ax m) s=(Ax b,AI T 4 a)):=by show _=_;rw[<-g.out,l,PZ R]
   have j:=fun u(y:RW wb tb cap T b u (AI T 4 a))=>D3 O y (Gh O 4 a) aj (AI T 4 a).next (fun _=>rfl) Bx (Z _ (by decide))
   rw[R] at j;rw[f] at k;generalize AI T 4 a=a9 at*;have ar:=o;clear g q f l R M o;go_wp2_with(first|(go_at_call 124;refine k.mono ?_;rintro i D⟨rfl,c,A⟩;have z:=c.fault;rw[Y] at z)|(go_at_call 94;refine(j _ c).mono ?_;rintro i ao⟨rfl,ab⟩;obtain rfl:=ab.symm;clear ab));go_ret;unfold F9;rw[G.out];exact⟨_,b,rfl,fun _=>rfl,X.out,fun _=>rfl,ar.step c A⟩
  |true=>
   have f:(Ap T a).2=Ab a:=by unfold Ap;rw[Ag q]
   have l:DX T (Ax b) a=BM T (Ax b) true a 0 0 (Ab a):=by unfold DX;rw[f]
   rw[f] at k;rw[l] at g;have af:=EZ O E q (by decide);have a5:a.next+1<T.length:=af;have a0:Av T (Ab a):=A4 p;have aa:(((Ab a).next:Nat):Int)=(a.next:Int)+1:=by show((a.next+1:Nat):Int)=_;omega
   rw[aa] at k;have C:=Gg O (Ax b) true a 0 0 af a0;have ad:At (BM T (Ax b) true a 0 0 (Ab a)).2 ((a.next:Int)+1):=RJ (fun _=>aa.symm);have J:=fun u(y:RD wb tb cap T N b u (Ab a)) a1=>PG y E true ⟨#[]⟩ 0 (fun _=>rfl) a1 1 1 0 (fun n ay _=>by subst ay;exact AT (Cb.row (E:=n.E) ae true) (by omega));have L:=fun e=>Oa (T:=T) (here:=true) (kind:=0) (args:=0) ae (show a.next+1<=(Ab a).next from AA _) e;have Q:(BM T (Ax b) true a 0 0 (Ab a)).2.code=0->(BM T (Ax b) true a 0 0 (Ab a)).2=Ab a:=Oc;unfold EP at J;have HS:Hid (∀t,Ax t=(BM T (Ax b) true a 0 0 (Ab a)).1->t.isSome=m.isSome):=by show∀t,_;intro t ax;rw[P1 ax];exact X.out
   generalize BM T (Ax b) true a 0 0 (Ab a)=d at*;have j:=fun u t(y:RW wb tb cap T t u d.2)=>D3 O y C.good C.stk ((a.next:Int)+1) ad Bx (Z _ (by decide));cases e:Aj T Bx d.2 with
   |true=>
    rw[e] at j;have K:=Cp O C.stk Ai e;have H:=Q K;have ag:=AD O C.good e Ai;have a6:a.next+2<T.length:=by have ac:d.2.next+1<T.length:=ag;rw[H] at ac;exact ac
    obtain⟨F,rfl⟩: ∃F,B=F+1:=⟨B -1,by omega⟩;have aq:Hid (EC T F (DX T d.1 (Ab d.2)).1 (DX T d.1 (Ab d.2)).2=C1 T (Ax m) s):=by show _=_;rw[<-g.out,Ac7 e]
    have ap:=L K;have W:Hid ((Ab d.2).next=a.next+2):=by show _=_;rw[H];rfl
    clear g e f l H Q L q
    go_wp2_with(first
     |(go_at_call 124;refine k.mono ?_;rintro i D⟨rfl,c,A⟩;have z:=c.fault;rw[show(Ab a).code=0 from p] at z)
     |(at_make;have _q:=c;refine wpList_make_full _ rfl _ _ 23 rfl 0 3 an _ 1 underlying23 ah ak al .i64 .i64 1 1 1 rfl rfl rfl rfl ?xb2 ?xb3 (B6 _) ?xhK
       case xb2=>rw[am];decide
       case xb3=>decide
       intro a3 S P
       clear S)
     |(go_at_call 125;refine(J _ ((o.step c A).below (U6 P)) _).mono ?_;rintro i ao⟨rfl,V,r,x⟩)
     |(go_at_call 94;refine(j _ _ x.rw).mono ?_;rintro i a2⟨rfl,v⟩;obtain rfl:=v.symm;clear v))
    go_roundw
    case rel=>exact⟨Ab d.2,V,F,by rw[W.out];go_num,x.at _,HS.out _ r,ag,K,by rw[r];exact ap.le (Ic _),by rw[W.out];omega,by rw[r];exact aq⟩
    case measure=>simp[intOf];omega
   |false=>
    rw[e] at j;have G:Hid (C1 T (Ax m) s=d):=by show _=_;rw[<-g.out,PZ e]
    clear g e f l Q L q
    go_wp2_with(first
     |(go_at_call 124;refine k.mono ?_;rintro i D⟨rfl,c,A⟩;have z:=c.fault;rw[show(Ab a).code=0 from p] at z)
     |(at_make;have _q:=c;refine wpList_make_full _ rfl _ _ 23 rfl 0 3 an _ 1 underlying23 ah ak al .i64 .i64 1 1 1 rfl rfl rfl rfl ?yb2 ?yb3 (B6 _) ?yhK
       case yb2=>rw[am];decide
       case yb3=>decide
       intro a3 S P
       clear S)
     |(go_at_call 125;refine(J _ ((o.step c A).below (U6 P)) _).mono ?_;rintro i ao⟨rfl,V,r,x⟩)
     |(go_at_call 94;refine(j _ _ x.rw).mono ?_;rintro i a2⟨rfl,v⟩;obtain rfl:=v.symm;clear v))
    go_ret;unfold F9;rw[G.out];exact⟨_,V,rfl,ad,HS.out _ r,fun _=>r,x⟩
theorem Wr(g:Av T s)(c:Int)(f:At s c)(e:s.code=0->Cb (Ax m) s):
 Ah 128 #[Al wb,Aa c] w (F9 wb tb cap T N m (C1 T (Ax m) s).1 (C1 T (Ax m) s).2):=by
 by_cases a:s.code=0
 ·obtain rfl:=f a;exact Ada O Z h I a (e a)
 ·refine(Ac8 h I a c).mono ?_;rintro i V⟨rfl,rfl⟩;have d:=(JI O (Ax m) I g).still a;unfold F9;rw[d];exact⟨_,m,rfl,fun b=>absurd b a,rfl,fun b=>absurd b a,h⟩
end
theorem AbH{t:Az}{a:List Az}{n:Nat}(h: ¬t.kind=.name):Gd (t::a) n=n:=by
 cases a with
 |nil=>rfl
 |cons u r=>rw[Gd,Ae h]
section
variable{t u:Az}{r:List Az}{n:Nat}(h:t.kind=.name)
include h
theorem AbI(a:FN u=false):Gd (t::u::r) n=n+1:=by rw[Gd,Ag h,Ae (by rw[a];simp)]
theorem AbG(a:FN u=true):Gd (t::u::r) n=Gd r (n+1):=by rw[Gd,Ag h,Ag a]
end
theorem Vx(O:AR T)(G:w.cell? (Ac wb 0)=some (Ar tb T.length cap))(F:T.length<=601)(q: ∀c,c<T.length->w.cell? (Ac tb (c*4))=some (Aa (T.getD c default).kind.r)/\w.cell? (Ac tb (c*4+3))=some (.string (T.getD c default).text))(I:An T s):
 Ah 127 #[Al wb,Aa s.next] w fun t V=>t=.returned (Aa (DB T s:Nat))/\V=w:=by
 have o:Hid (∀c,c<T.length->w.cell? (Ac tb (c*4))=some (Aa (T.getD c default).kind.r)/\w.cell? (Ac tb (c*4+3))=some (.string (T.getD c default).text)):=q;clear q;have v:s.next<T.length:=I;go_enter func127,ntmps127;go_wp2;go_loop [1,5] (fun n r=> ∃(a e:Nat),n=Aa a/\r=Aa e/\a<T.length/\e<=a/\Hid (Gd (T.drop a) e=DB T s)) (fun n _=>T.length -(intOf n).toNat)
 case atStart=>exact⟨s.next,0,rfl,rfl,v,by omega,rfl⟩
 case round=>
  obtain⟨a,e,rfl,rfl,m,B,f⟩:=hrel;obtain⟨p,_⟩:=o.out a m;have C:(a:Int)<T.length:=by omega
  have g:T.drop a=T.getD a default::T.drop (a+1):=R8 m;have j:=Pc (T.getD a default).kind;by_cases d:(T.getD a default).kind=.name
  ·have k:AN T .name ⟨0,0,a⟩=true:=by simp only[AN,Ad,d,decide_true]
   have l:a+1<T.length:=EZ O (s:=⟨0,0,a⟩) m k (by decide);obtain⟨_,A⟩:=o.out (a+1) l;have D:(a:Int)+1<T.length:=by omega
   have i:T.drop (a+1)=T.getD (a+1) default::T.drop (a+2):=R8 l;rw[d] at p;simp only[TK.r] at p;cases b:FN (T.getD (a+1) default) with
   |true=>
    have x:a+2<T.length:=by have y:Aj T Bx ⟨0,0,a+1⟩=true:=b;exact AD O (s:=⟨0,0,a+1⟩) l y Ai
    have z:((T.getD (a+1) default).text.toList==([44]:List UInt8))=true:=by unfold FN at b;rw[Ie] at b;exact b
    have h:Hid (Gd (T.drop (a+2)) (e+1)=DB T s):=by show _=_;rw[<-f.out,g,i,AbG d b]
    clear f g i j d k b;generalize T.getD (a+1) default=u at*;go_wp2
    go_round
    case rel=>exact⟨a+2,e+1,by go_num,by go_num,x,by omega,h⟩
    case measure=>simp[intOf];omega
   |false=>
    have z:((T.getD (a+1) default).text.toList==([44]:List UInt8))=false:=by unfold FN at b;rw[Ie] at b;exact b
    have h:Hid (DB T s=e+1):=by show _=_;rw[<-f.out,g,i,AbI d b]
    clear f g i j d k b;generalize T.getD (a+1) default=u at*;go_wp2;go_ret;exact⟨by rw[h.out];go_num,rfl⟩
  ·have E:((T.getD a default).kind.r==1)=false:=by rw[j];simpa using d
   have h:Hid (DB T s=e):=by show _=_;rw[<-f.out,g,AbH d]
   clear f g j d;generalize(T.getD a default).kind.r=H at*;go_wp2;go_ret;exact⟨by rw[h.out];rfl,rfl⟩
theorem AbJ(O:AR T)(h:RW wb tb cap T m w s)(I:An T s):
 Ah 127 #[Al wb,Aa s.next] w fun b V=>b=.returned (Aa (DB T s:Nat))/\V=w:=
 Vx O h.toks h.size (fun a c=>by have:=(h.at a).curCells (s:={s with next:=a}) c;exact⟨this.1,this.2.2.2⟩) I
end
