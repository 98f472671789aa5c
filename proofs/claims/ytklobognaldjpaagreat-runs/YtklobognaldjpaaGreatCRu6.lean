/- The laws of lecternlaw: a list goes into the book. The laws  -/
import Derived.Test.YtklobognaldjpaaGreatCRu2
import Derived.Deep.RegionHeld3
set_option maxRecDepth 1000000
set_option maxHeartbeats 4000000
namespace Go.Proofs.YtklobognaldjpaaGreat
open Go.Proofs.Tryz
open Go.RowKit
theorem TA(w:World)(d:Nat)(c:Value)(g:TypeId): ∀a b,(List.replicate d c)[a]? =some b->(w.alloc (.cells (List.replicate d c).toArray g)).cell? (((Ac w.heap.size 0):Addr).add a)=some b:=by
 intro a b f
 have e:((Ac w.heap.size 0):Addr).add a=(Ac w.heap.size a):=by
  cases a with
  |zero=>rfl
  |succ a=>simp[Addr.add]
 rw[e,Cl];rw[List.getElem?_toArray];exact f
theorem Afn(w:World)(a b c f:Value)(i:TypeId): ∀d e,[a,b,c,f][d]? =some e->(w.alloc (.cells #[a,b,c,f] i)).cell? (((Ac w.heap.size 0):Addr).add d)=some e:=by
 intro d e h
 have g:((Ac w.heap.size 0):Addr).add d=(Ac w.heap.size d):=by
  cases d with
  |zero=>rfl
  |succ d=>simp[Addr.add]
 rw[g,Cl];simpa using h
theorem V7{c:AW}{w D g:World}{row:Option Nat}(h:Fr c w D)(b:D.grownBy g row)(j: ∀a,row=some a->c a\/w.heap.size<=a):Fr c w g:=
 ⟨b.os.trans h.os,b.tape.trans h.tape,b.output.trans h.output,AT h.size b.size,fun a e f=>by
  rw[b.block a (CF e h.size) (fun i=>by
   rcases j a i.symm with d|d
   ·exact f d
   ·omega)]
  exact h.block a e f⟩
theorem Aho{a:Nat}{b:Value}{c:List Value}(d:a<c.length):(List.replicate a b++c.drop a).set a b=List.replicate (a+1) b++c.drop (a+1):=by rw[NN d,Pj _ _ (by simp),Ml,I2,List.set_cons_zero,UD,DO];rfl
def UN(w:World)(Y l:Value)(b:List Value):Prop:= ∀v∈b,∀a,v.ownBlock=some a->Y.ownBlock=some a\/l.ownBlock=some a\/w.heap.size<=a
section
variable{w I K:World}{wb lo:Nat}{Y X l a b c:Value}{rs:List Value}{q:Nat}{A:Obj}
theorem EG.more(h:EG w wb lo Y rs)(Z:rs.length=4*q)(D:l.ownBlock≠some wb)(L: ∀d,l.ownBlock=some d->Y.ownBlock≠some d)(M: ∀v∈rs,∀d,v.ownBlock=some d->l.ownBlock≠some d)
 (hF:Fr (fun d=>l.ownBlock=some d) w I)(u: ∀v∈[l,a,b,c],Gx I v (5000000000+(q:Int))/\ ∀d,v.ownBlock=some d->d<I.heap.size/\(l.ownBlock=some d\/w.heap.size<=d))
 (S:K.ownsRow lo 23 1 X (rs.length+4) (rs++[l,a,b,c]))(p:(I.alloc A).grownBy K Y.ownBlock)(x:X.ownBlock=Y.ownBlock\/ ∀d,X.ownBlock=some d->(I.alloc A).heap.size<=d):
 EG (K.setCell (Ac wb 2) X) wb lo X (rs++[l,a,b,c])/\Fr (fun d=>d=wb\/Y.ownBlock=some d\/l.ownBlock=some d) w (K.setCell (Ac wb 2) X)/\UN w Y l [X,a,b,c]:=by
 have T:wb<w.heap.size:=De h.cel;have N:=h.own.lt;have V:(I.alloc A).heap.size=I.heap.size+1:=by simp
 have O: ∀d,d<I.heap.size->(I.alloc A).heap[d]? =I.heap[d]? :=fun d n=>((Below.refl I.heap.size I).alloc (AA _) A).block d n;have aa:=hF.size;have ab:=p.size;have t: ∀d,d<I.heap.size->Y.ownBlock≠some d->K.heap[d]? =I.heap[d]? :=fun d n r=>(p.block d (by omega) (fun e=>r e.symm)).trans (O d n);have G:K.heap[wb]? =w.heap[wb]? :=(t wb (by omega) h.off).trans (hF.block wb T D)
 have F:X.ownBlock≠some wb:=by
  rcases x with e|e
  ·rw[e];exact h.off
  ·intro f;have:=e wb f;omega
 have Q:(rs++[l,a,b,c]).length=rs.length+4:=by simp
 have C: ∀d,d≠wb->(K.setCell (Ac wb 2) X).heap[d]? =K.heap[d]? :=fun d n=>Below.heap_setCell _ _ _ _ n;have s:(K.setCell (Ac wb 2) X).heap.size=K.heap.size:=by simp[World.setCell]
 have E: ∀v∈[l,a,b,c],∀d,v.ownBlock=some d->d≠wb/\Y.ownBlock≠some d:=fun v g d e=>by
  rcases((u v g).2 d e).2 with f|f
  ·exact⟨fun m=>D (by rw[<-m];exact f),L d f⟩
  ·exact⟨by omega,fun m=>by have:=(N d m).2;omega⟩
 refine⟨⟨?_,?_,?_,F,fun y v o=> ?_,fun v g d e=> ?_⟩,⟨p.os.trans hF.os,p.tape.trans hF.tape,p.output.trans hF.output,by rw[s];omega,fun d n r=> ?_⟩,fun v g d e=> ?_⟩
 ·have P:K.cell? (Ac wb 2)=some Y:=by rw[World.cell?_of_block (w:=w) G];exact h.cel
  exact DW _ _ _ P
 ·rw[Cu,World.frozen?_of_block (w:=w) G];exact h.frz
 ·rw[Q];exact ownsRow_setCell_other S F _
 ·by_cases R:y<rs.length
  ·rw[CR R] at o;have g:=Ct o;refine(h.full y v o).kept (by rw[s];omega) fun i e B U z=> ?_;obtain⟨j,k,_⟩:=h.apt v g i e;rw[World.cell?_of_block (w:=w) (((C i j).trans (t i (by omega) k)).trans (hF.block i B (M v g i e)))];exact z
  ·rw[CS (by omega)] at o;have g:=Ct o;have W:y -rs.length<4:=(BH.1 o).1;have J:y/4=q:=by omega
   rw[J];refine(u v g).1.kept (by rw[s];omega) fun i e B U z=> ?_;obtain⟨j,k⟩:=E v g i e;rw[World.cell?_of_block (w:=I) ((C i j).trans (t i B k))];exact z
 ·rcases BD.1 g with g|g
  ·obtain⟨j,k,H⟩:=h.apt v g d e;refine⟨j,?_,by rw[s];omega⟩;rcases x with f|f
   ·rw[f];exact k
   ·intro m;have q1:=f d m;omega
  ·obtain⟨j,k⟩:=E v g d e;have H:=((u v g).2 d e).1;refine⟨j,?_,by rw[s];omega⟩;rcases x with f|f
   ·rw[f];exact k
   ·intro m;have:=f d m;omega
 ·rw[C d (fun e=>r (.inl e)),t d (by omega) (fun e=>r (.inr (.inl e))),hF.block d n (fun e=>r (.inr (.inr e)))]
 ·rcases C0.1 g with rfl|g
  ·rcases x with f|f
   ·exact .inl (by rw[<-f];exact e)
   ·have:=f d e;exact .inr (.inr (by omega))
  ·rcases((u v (F8 _ g)).2 d e).2 with f|f
   ·exact .inr (.inl f)
   ·exact .inr (.inr f)
theorem Tt{wr c:World}{v6:Value}{b f:Nat}{e:Int}(hF:Fr (fun a=>l.ownBlock=some a) w wr)(i:c.ownsRow lo 3 1 v6 (b+f) (List.replicate b (Aa e)++List.replicate f (Aa e)))(j:c.ownsRow lo 3 1 l b (List.replicate b (Aa e)))(h:(wr.alloc A).grownBy c l.ownBlock)(m:v6.ownBlock=l.ownBlock\/ ∀a,v6.ownBlock=some a->(wr.alloc A).heap.size<=a)(k:b+f<=maxLen)(q:lo<=wr.heap.size):
 Fr (fun a=>l.ownBlock=some a) w c/\(c.ownsRow lo 3 1 l b (List.replicate b (Aa e))/\lo<=c.heap.size)/\(Gx c v6 e/\ ∀a,v6.ownBlock=some a->a<c.heap.size/\(l.ownBlock=some a\/w.heap.size<=a)):=by
 have n:(wr.alloc A).heap.size=wr.heap.size+1:=by simp
 have o:=h.size;have p:=hF.size;refine⟨V7 (hF.trans (Fr.of_below ((Below.refl _ _).alloc (AA _) A))) h (fun a d=>.inl d),⟨j,by omega⟩,V9 (n:=b+f) (by rw[<-List.replicate_append_replicate];exact i) k,fun a d=>⟨(i.lt a d).2,?_⟩⟩;rcases m with g|g
 ·exact .inl (by rw[<-g];exact d)
 ·have:=g a d;exact .inr (by omega)
theorem Gx.after{wr a:World}{v:Value}{b:Int}(h:Gx wr v b)(c:CX (wr.alloc A) a (Aa b))(d:(wr.alloc A).heap.size<=a.heap.size):Gx a v b:=
 (h.cx (by simp) (CX.below ((Below.refl _ _).alloc (AA _) A) _)).cx d c
theorem Tryz.infoRow:(prog.info? 23).map (fun a=>(a.zero,a.size,a.bytes))=some (some Aw,1,24):=by kernel_rfl
theorem XN(h:EG w wb lo Y rs)(bu:rs.length=4*q)(cl:q<=1000){j:Nat}{x:List Value}(P:w.ownsRow lo 3 1 l j x)(ck:j<=17592186044000)(av:l.ownBlock≠some wb)(aw: ∀d,l.ownBlock=some d->Y.ownBlock≠some d)(ax: ∀v∈rs,∀d,v.ownBlock=some d->l.ownBlock≠some d)(bt:lo<=w.heap.size):
 Ah 45 #[.pointer (some (Ac wb 2)),l] w fun i U=>i=.returned A6/\Hid (∃X a b c,EG U wb lo X (rs++[l,a,b,c])/\Fr (fun d=>d=wb\/Y.ownBlock=some d\/l.ownBlock=some d) w U/\UN w Y l [X,a,b,c]):=by
 obtain⟨ag,ab,ad,ae,af⟩:=info_parts Tryz.infoIntC;obtain⟨b4,bq,b1,b2,b3⟩:=info_parts Tryz.infoRow;obtain⟨f,g,rfl,_⟩:=D9 P;obtain⟨t,u,rfl,_⟩:=D9 h.own;have cg:=h.cel;have k:Hid (EG w wb lo (.slice t rs.length u) rs/\(Value.slice f j g).ownBlock≠some wb/\(∀d,(Value.slice f j g).ownBlock=some d->(Value.slice t rs.length u).ownBlock≠some d)/\ ∀v∈rs,∀d,v.ownBlock=some d->(Value.slice f j g).ownBlock≠some d):=⟨h,av,aw,ax⟩;have b0:x.length=j:=by have:=P.1;omega
 clear h av aw ax;generalize Z:rs.length=ca at*;subst bu;go_enter func45,ntmps45;go_wp2;go_loopw [5] (fun ak wr=> ∃e:Nat,ak=Aa e/\e<=j/\wr.ownsRow lo 3 1 (.slice f j g) j (List.replicate e (Aa (5000000000+(q:Int)))++x.drop e)/\Fr (fun d=>(Value.slice f j g).ownBlock=some d) w wr) (fun ak _=>j -(intOf ak).toNat)
 case atStart=>exact⟨0,rfl,B6 _,by simpa using P,Fr.refl _ _⟩
 case round=>
  obtain⟨e,rfl,ch,o,hF⟩:=hrel;by_cases cj:e<j
  ·have bp:(e:Int)<(j:Int):=by omega
   obtain⟨ar,S,i,_,_⟩:=o.form (by omega);cases i;have ci:=o.cellAt e (by omega);have cf:=o.frozenAt e;obtain⟨ac,a5⟩:=o.stored e (Aa (5000000000+(q:Int)));rw[Aho (by omega)] at ac;have bo:=V7 hF a5 (fun d i=>.inl (by simpa[Value.ownBlock] using i));rw[CS (by simp),Ml,I2,Uz,Mq,Bb (by omega)] at ci;have bk:Hid _:=ac;clear ac a5 o;generalize x[e]=co at*;go_wp2
   go_roundw
   case rel=>exact⟨e+1,by go_num,by omega,bk.out,bo⟩
   case measure=>simp[intOf];omega
  ·have bp: ¬(e:Int)<(j:Int):=by omega
   obtain rfl:e=j:=by omega
   have s:List.replicate e (Value.int .i64 (5000000000+(q:Int)))++x.drop e=List.replicate e (Value.int .i64 (5000000000+(q:Int))):=by rw[Rk (by omega),IY]
   rw[s] at o;have y:Hid (wr.ownsRow lo 3 1 (.slice f e g) e (List.replicate e (Aa (5000000000+(q:Int))))/\lo<=wr.heap.size):=⟨o,AT bt hF.size⟩;have al:Hid (Fr (fun d=>(Value.slice f e g).ownBlock=some d) w wr):=hF;clear o hF P s b0;have a1:=y.out.1.alloc (.cells #[Aa (5000000000+(q:Int))] 3);go_upto_region 6 with(at_builtin;refine Ul rfl _ _ 23 rfl lo 3 ag _ 8 underlying23 ab ad ae af rfl _ _ _ rfl a1 (Ac wr.heap.size 0) 1 1 (Aa (5000000000+(q:Int))) rfl (TA wr 1 _ _) rfl (by unfold maxLen;omega) (by omega) (AT y.out.2 (by simp)) ?_;intro v6 m ah a8 T bc ap);have C:Hid _:=Tt al.out ah a8 T bc (by unfold maxLen;omega) y.out.2;have am:Hid (Fr (fun d=>(Value.slice f e g).ownBlock=some d) w m):=C.out.1;have z:Hid (m.ownsRow lo 3 1 (.slice f e g) e (List.replicate e (Aa (5000000000+(q:Int))))/\lo<=m.heap.size):=C.out.2.1;have bh:Hid (CX (wr.alloc (.cells #[Aa (5000000000+(q:Int))] 3)) m (Aa (5000000000+(q:Int)))/\(wr.alloc (.cells #[Aa (5000000000+(q:Int))] 3)).heap.size<=m.heap.size):=⟨ap,T.size⟩;have ay:=C.out.2.2;have F:Hid (Gx m v6 (5000000000+(q:Int))/\ ∀d,v6.ownBlock=some d->d<m.heap.size/\((Value.slice f e g).ownBlock=some d\/w.heap.size<=d)):=ay;obtain⟨H,M,bv,_⟩:=D9 ah;subst bv;clear ah a8 T bc ap ay C a1;have a2:=z.out.1.alloc (.cells #[Aa (5000000000+(q:Int)),Aa (5000000000+(q:Int))] 3);go_upto_region 7 with(at_builtin;refine Ul rfl _ _ 23 rfl lo 3 ag _ 8 underlying23 ab ad ae af rfl _ _ _ rfl a2 (Ac m.heap.size 0) 2 2 (Aa (5000000000+(q:Int))) rfl (TA m 2 _ _) rfl (by unfold maxLen;omega) (by omega) (AT z.out.2 (by simp)) ?_;intro bf n ai a9 V bd S);have D:Hid _:=Tt am.out ai a9 V bd (by unfold maxLen;omega) z.out.2;have an:Hid (Fr (fun d=>(Value.slice f e g).ownBlock=some d) w n):=D.out.1;have A:Hid (n.ownsRow lo 3 1 (.slice f e g) e (List.replicate e (Aa (5000000000+(q:Int))))/\lo<=n.heap.size):=D.out.2.1;have B:Hid (CX (m.alloc (.cells #[Aa (5000000000+(q:Int)),Aa (5000000000+(q:Int))] 3)) n (Aa (5000000000+(q:Int)))/\(m.alloc (.cells #[Aa (5000000000+(q:Int)),Aa (5000000000+(q:Int))] 3)).heap.size<=n.heap.size):=⟨S,V.size⟩;have az:=D.out.2.2;have G:Hid (Gx n bf (5000000000+(q:Int))/\ ∀d,bf.ownBlock=some d->d<n.heap.size/\((Value.slice f e g).ownBlock=some d\/w.heap.size<=d)):=az;obtain⟨J,N,bw,_⟩:=D9 ai;subst bw;clear ai a9 V bd S az D a2;have a3:=A.out.1.alloc (.cells #[Aa (5000000000+(q:Int)),Aa (5000000000+(q:Int)),Aa (5000000000+(q:Int))] 3);go_upto_region 8 with(at_builtin;refine Ul rfl _ _ 23 rfl lo 3 ag _ 8 underlying23 ab ad ae af rfl _ _ _ rfl a3 (Ac n.heap.size 0) 3 3 (Aa (5000000000+(q:Int))) rfl (TA n 3 _ _) rfl (by unfold maxLen;omega) (by omega) (AT A.out.2 (by simp)) ?_;intro bg I aj ba W be aq);have E:Hid _:=Tt an.out aj ba W be (by unfold maxLen;omega) A.out.2;have R:Hid (Fr (fun d=>(Value.slice f e g).ownBlock=some d) w I):=E.out.1;have Q:Hid (I.ownsRow lo 3 1 (.slice f e g) e (List.replicate e (Aa (5000000000+(q:Int))))/\lo<=I.heap.size):=E.out.2.1;have p:Hid (CX (n.alloc (.cells #[Aa (5000000000+(q:Int)),Aa (5000000000+(q:Int)),Aa (5000000000+(q:Int))] 3)) I (Aa (5000000000+(q:Int)))/\(n.alloc (.cells #[Aa (5000000000+(q:Int)),Aa (5000000000+(q:Int)),Aa (5000000000+(q:Int))] 3)).heap.size<=I.heap.size):=⟨aq,W.size⟩;have a0:=E.out.2.2;have ao:Hid (Gx I bg (5000000000+(q:Int))/\ ∀d,bg.ownBlock=some d->d<I.heap.size/\((Value.slice f e g).ownBlock=some d\/w.heap.size<=d)):=a0;obtain⟨L,O,bx,_⟩:=D9 aj;subst bx;clear aj ba W be aq a0 E a3;have aa:I.heap[wb]? =w.heap[wb]? :=R.out.block wb (De k.out.1.cel) k.out.2.1;have bm:I.cell? (Ac wb 2)=some (.slice t (4*q) u):=(World.cell?_of_block (w:=w) aa).trans k.out.1.cel;have a4:=(Cq k.out.1.own fun d i=>R.out.block d (k.out.1.own.lt d i).2 fun bn=>k.out.2.2.1 d bn i).alloc (.cells #[(.slice f e g),(.slice H (e+1) M),(.slice J (e+2) N),(.slice L (e+3) O)] 23);rw[Z] at a4;have bl:Hid (∀(K:World),(I.alloc (.cells #[(.slice f e g),(.slice H (e+1) M),(.slice J (e+2) N),(.slice L (e+3) O)] 23)).grownBy K (Value.slice t (4*q) u).ownBlock->K.cell? (Ac wb 2)=some (.slice t (4*q) u)/\K.frozen? (Ac wb 2)=false):=fun K ar=>by have br:wb<I.heap.size:=De bm;have s:K.heap[wb]? =w.heap[wb]? :=((ar.block wb (by simp;omega) (fun i=>k.out.1.off i.symm)).trans (((Below.refl I.heap.size I).alloc (AA _) _).block wb br)).trans aa;exact⟨(World.cell?_of_block (w:=w) s).trans k.out.1.cel,(World.frozen?_of_block (w:=w) s).trans k.out.1.frz⟩
   have bi:Hid (∀v∈[(.slice f e g),(.slice H (e+1) M),(.slice J (e+2) N),(.slice L (e+3) O)],Gx I v (5000000000+(q:Int))/\ ∀d,v.ownBlock=some d->d<I.heap.size/\((Value.slice f e g).ownBlock=some d\/w.heap.size<=d)):=fun v a7=>by
    have b6:=B.out.2;have b7:=p.out.2;have b8: ∀r,(m.alloc r).heap.size=m.heap.size+1:=fun r=>by simp
    have b9: ∀r,(n.alloc r).heap.size=n.heap.size+1:=fun r=>by simp
    rw[b8] at b6;rw[b9] at b7;simp only[C0,I0,Jl] at a7;rcases a7 with rfl|rfl|rfl|rfl
    ·exact⟨V9 Q.out.1 (by unfold maxLen;omega),fun d i=>⟨(Q.out.1.lt d i).2,.inl i⟩⟩
    ·exact⟨(F.out.1.after B.out.1 B.out.2).after p.out.1 p.out.2,fun d i=>⟨by have:=(F.out.2 d i).1;omega,(F.out.2 d i).2⟩⟩
    ·exact⟨G.out.1.after p.out.1 p.out.2,fun d i=>⟨by have:=(G.out.2 d i).1;omega,(G.out.2 d i).2⟩⟩
    ·exact ao.out
   clear F G ao bh B p y z A al am an aa;go_wp2_with(at_builtin;refine Gw rfl _ _ 27 rfl lo 23 b4 _ 1 24 underlying27 bq b1 b2 b3 rfl (by decide) _ _ _ rfl a4 (Ac I.heap.size 0) 4 4 [(.slice f e g),(.slice H (e+1) M),(.slice J (e+2) N),(.slice L (e+3) O)] rfl rfl (Afn I _ _ _ _ _) (by intro cm a6;simp at a6;rcases a6 with rfl|rfl|rfl|rfl<;>rfl) (by unfold maxLen;omega) (by omega) (AT Q.out.2 (by simp)) ?_;intro cn K bb au b5;obtain⟨cd,ce⟩:=bl.out K au;obtain⟨cb,cc,bz,_⟩:=D9 bb;subst bz;have bj:Hid _:=k.out.1.more Z k.out.2.1 k.out.2.2.1 k.out.2.2.2 R.out bi.out (by rw[Z];exact bb) au b5);go_end0;exact⟨rfl,_,_,_,_,bj.out⟩
end
theorem Aio{w:World}{wb lo:Nat}{Y:Value}{rs:List Value}(h:EG w wb lo Y rs)(N:rs.length<=4000):Ah 16 #[.pointer (some (Ac wb 2))] w fun l U=>l=.returned (.bool true)/\U=w:=by
 obtain⟨C,D,rfl,_⟩:=D9 h.own;have I:=h.cel;have o:Hid (EG w wb lo (.slice C rs.length D) rs):=h;clear h;generalize x:rs.length=g at*;go_enter func16,ntmps16;go_wp2;go_loop [3,4,5] (fun s f _=>s=.bool true/\ ∃b:Nat,f=Aa b/\b<=g) (fun _ f _=>g -(intOf f).toNat)
 case atStart=>exact⟨rfl,0,rfl,B6 _⟩
 case round=>
  obtain⟨rfl,b,rfl,K⟩:=hrel;by_cases M:b<g
  ·have y:(b:Int)<(g:Int):=by omega
   have k:=o.out.own;rw[x] at k;obtain⟨j,E,l,_,_⟩:=k.form (by omega);cases l;have n:rs[b]? =some rs[b]:=Bb (by omega);have ci:=k.cellAt b (by omega);rw[n] at ci;obtain⟨i,m⟩: ∃i,b/4=i:=⟨_,rfl⟩;have r:=o.out.full b _ n;rw[m] at r;obtain⟨a,e,c,t,B,q⟩:=r;rw[t] at ci;have O:Int.tdiv (b:Int) 4=(i:Int):=by rw[show(4:Int)=((4:Nat):Int) from rfl,<-Int.ofNat_tdiv,m]
   have v:Hid (e=0\/ ∃j,a=some (Ac j 0)/\j<w.heap.size/\ ∀u,u<e->w.cell? (Ac j u)=some (Aa (5000000000+((i:Nat):Int)))):=q;have J:i<=1000:=by omega
   unfold maxLen at B;clear q k t n m;go_wp2;go_loop [3,5] (fun s f=>s=.bool true/\ ∃d:Nat,f=Aa d/\d<=e) (fun _ f=>e -(intOf f).toNat)
   case atStart=>exact⟨rfl,0,rfl,B6 _⟩
   case round=>
    obtain⟨rfl,d,rfl,L⟩:=hrel;by_cases A:d<e
    ·have z:(d:Int)<(e:Int):=by omega
     rcases v.out with H|⟨G,rfl,_,p⟩
     ·omega
     have F:=p d A;clear p;go_wp2
     go_round
     case rel=>exact⟨by simp,d+1,by go_num,by omega⟩
     case measure=>simp[intOf];omega
    ·have z: ¬(d:Int)<(e:Int):=by omega
     go_wp2
     go_round
     case rel=>exact⟨rfl,b+1,by go_num,by omega⟩
     case measure=>simp[intOf];omega
  ·have y: ¬(b:Int)<(g:Int):=by omega
   go_wp2;go_ret;exact⟨rfl,rfl⟩
def Fa(l:List UInt8)(b:List Int)(a:Int):(Nat×List Int×Nat)×Nat×Nat:=
 if(B1 l).1≠0 then((0,[],0),B1 l) else if¬(0<=a/\a<=3000) then((0,[],0),8,0) else if Ej b=false then((0,[],0),11,0) else(El (CW l) b a.toNat,0,0)
def Mf(a:(Nat×List Int×Nat)×Nat×Nat)(w:World)(d:Ending)(U:World):Prop:=
 ∃b c,d=.returned (.tuple #[.agg #[Aa (a.1.1:Nat),.slice b a.1.2.1.length c,Aa (a.1.2.2:Nat)],Aa (a.2.1:Nat),Aa (a.2.2:Nat)])/\a.1.2.1.length<=60/\Hid (U.ownsRow w.heap.size 3 1 (.slice b a.1.2.1.length c) a.1.2.1.length (a.1.2.1.map (.int .i64)))/\Ay w U
theorem Aa5{l:List UInt8}{d:List Int}{c:Int}{w U:World}{b:Ending}(h:NZ l d c w b U):Mf (Fa l d c) w b U:=by
 obtain⟨a,h|h|h|h⟩:=h
 ·unfold Fa;rw[Ag h.1];exact⟨none,0,h.2,by simp,World.ownsRow_nil _ _ _ _,a⟩
 ·unfold Fa;rw[Ae (by rw[h.1];simp),Ag h.2.1];exact⟨none,0,h.2.2,by simp,World.ownsRow_nil _ _ _ _,a⟩
 ·unfold Fa;rw[Ae (by rw[h.1];simp),Ae (by simpa using h.2.1),Ag h.2.2.1];exact⟨none,0,h.2.2.2,by simp,World.ownsRow_nil _ _ _ _,a⟩
 ·unfold Fa;rw[Ae (by rw[h.1];simp),Ae (by simpa using h.2.1),Ae (by rw[h.2.2.1];simp)];obtain⟨i,j,f,g,e⟩:=h.2.2.2;exact⟨i,j,f,e,g,a⟩
def Pn:Prop:= ∀(s:Af)(v:Value)(b:List Int)(a:Int)(w:World),En w v b->Ir v->b.length<=17592186044000-> -9223372036854775808<=a->a<=9223372036854775807->Ah 42 #[.string s,v,Aa a] w (Mf (Fa s.data.toList b a) w)
structure JM where
 jb:Nat
 xb:Nat
 wb:Nat
 wc:Nat
 W:List Nat
 Q:Nat->Prop
 fuel:Nat
 limit:Nat
 waits:Bool
 R:MR
 vi:Value
 m:MS
 num:Nat
 done:Bool
 ov:Value
def JM.foot(J:JM)(b:Nat):Prop:=b=J.jb\/b=J.xb\/J.R.has b\/J.Q b
def JM.cells(J:JM):List Value:=[Aa (J.num:Nat),Aa ((J.m.over.getD 0:Nat):Int),J.ov,Aa (J.m.used:Nat),.pointer (if J.done then none else some (Ac J.xb 0))]
structure GZ(w:World)(J:JM):Prop where
 cel:GX J.jb w J.cells
 frz: ∀o,w.frozen? (Ac J.jb o)=false
 mc:MC J.xb J.wb J.wc J.W J.Q w J.m J.fuel J.limit J.waits J.R J.vi
 nx:J.jb≠J.xb
 nr: ¬J.R.has J.jb
 nq: ¬J.Q J.jb
 ouv:J.ov=J.R.ou\/(J.ov=Aw/\J.m.out=[])
section
variable{w U:World}{J:JM}
theorem GZ.lt(h:GZ w J):J.jb<w.heap.size:=De (h.cel 0 _ rfl)
theorem GZ.footlt(h:GZ w J){b:Nat}(a:J.foot b):b<w.heap.size:=by
 rcases a with rfl|rfl|a|a
 ·exact h.lt
 ·exact h.mc.rows.xlt
 ·exact h.mc.rows.lt b a
 ·exact(h.mc.rows.far b a).1
theorem GZ.same(h:GZ w J)(g:w.heap.size<=U.heap.size)(c: ∀b,J.foot b->U.heap[b]? =w.heap[b]?):GZ U J:=by
 have d:=c J.jb (.inl rfl);have e:=c J.xb (.inr (.inl rfl));refine⟨h.cel.block d,fun o=>by rw[World.frozen?_of_block (w:=w) d];exact h.frz o,⟨h.mc.cel.block e,fun o=>by rw[World.frozen?_of_block (w:=w) e];exact h.mc.frz o,h.mc.rows.same g fun b f=>c b ?_⟩,h.nx,h.nr,h.nq,h.ouv⟩;rcases f with a|a
 ·exact .inr (.inr (.inr a))
 ·exact .inr (.inr (.inl a))
theorem GZ.below(h:GZ w J)(a:Ay w U):GZ U J:=h.same a.size fun b c=>a.block b (h.footlt c)
def JM.after(J:JM)(c:MS)(d:Nat)(b:Bool)(a:MR)(e:Value):JM:={J with m:=c,limit:=d,waits:=b,R:=a,vi:=e,done:=c.over.isSome,ov:=a.ou}
theorem MM.foot{d f:MR}{e:Nat}(i:MM e d f w U){a:AW}(g:a e)(h: ∀b,d.has b->a b):Fr a w U:=i.1.weak fun j _ c=>by
 rcases c with rfl|c
 ·exact g
 ·exact h j c
end
def Ov(O:List JM)(b:Nat):Int×Int:=match O.find? fun J=>J.jb==b with
 |some J=>(((J.m.used:Nat):Int),((J.num:Nat):Int))
 |none=>(0,0)
def Re(O:List JM):Prop:= ∀(c d:Nat)(J a:JM),O[c]? =some J->O[d]? =some a->c≠d-> ∀b,J.foot b-> ¬a.foot b
structure GB(w:World)(V R:Nat)(Z v:Value)(O:List JM)(N:List Nat):Prop where
 c0:w.cell? (Ac V 0)=some (Aa (R:Nat))
 c1:w.cell? (Ac V 1)=some Z
 c2:w.cell? (Ac V 2)=some v
 fz: ∀o,w.frozen? (Ac V o)=false
 rj:w.ownsRow 0 103 1 Z O.length (O.map fun J=>Jm J.jb)
 rh:w.ownsRow 0 103 1 v N.length (N.map Jm)
 a1:Z.ownBlock≠some V
 a2:v.ownBlock≠some V
 a3:Df Z v
 job: ∀J∈O,GZ w J
 off: ∀J∈O,∀b,J.foot b->b≠V/\Z.ownBlock≠some b/\v.ownBlock≠some b
 dis:Re O
 hin: ∀b∈N,∃J∈O,J.jb=b
def Lr(V:Nat)(Z v:Value)(O:List JM)(b:Nat):Prop:=b=V\/Z.ownBlock=some b\/v.ownBlock=some b\/ ∃J∈O,J.foot b
structure RM(V:Nat)(Z v:Value)(O:List JM)(M v':Value)(C:List JM)(w U:World):Prop where
 fr:Fr (Lr V Z v O) w U
 nw: ∀b,Lr V M v' C b->Lr V Z v O b\/w.heap.size<=b
section
variable{w U D:World}{V R:Nat}{Z v M v' vj2 v2:Value}{O C Js2:List JM}{N hp':List Nat}
theorem RM.refl(V:Nat)(Z v:Value)(O:List JM)(w:World):RM V Z v O Z v O w w:=⟨Fr.refl _ _,fun _ h=>.inl h⟩
theorem RM.trans(h:RM V Z v O M v' C w D)(b:RM V M v' C vj2 v2 Js2 D U):RM V Z v O vj2 v2 Js2 w U:=by
 refine⟨⟨b.fr.os.trans h.fr.os,b.fr.tape.trans h.fr.tape,b.fr.output.trans h.fr.output,AT h.fr.size b.fr.size,fun a c f=> ?_⟩,fun a c=> ?_⟩
 ·refine(b.fr.block a (CF c h.fr.size) fun g=> ?_).trans (h.fr.block a c f);rcases h.nw a g with e|e
  ·exact f e
  ·omega
 ·rcases b.nw a c with d|d
  ·exact h.nw a d
  ·exact .inr (AT h.fr.size d)
section
variable(h:GB w V R Z v O N)
include h
theorem GB.lt:V<w.heap.size:=De h.c0
theorem GB.footlt{b:Nat}(a:Lr V Z v O b):b<w.heap.size:=by
 rcases a with rfl|a|a|⟨J,c,a⟩
 ·exact h.lt
 ·exact(h.rj.lt b a).2
 ·exact(h.rh.lt b a).2
 ·exact(h.job J c).footlt a
theorem GB.same(i:w.heap.size<=U.heap.size)(c: ∀b,Lr V Z v O b->U.heap[b]? =w.heap[b]?):GB U V R Z v O N:=by
 have a:=c V (.inl rfl)
 exact⟨by rw[World.cell?_of_block (w:=w) a];exact h.c0,by rw[World.cell?_of_block (w:=w) a];exact h.c1,by rw[World.cell?_of_block (w:=w) a];exact h.c2,fun o=>by rw[World.frozen?_of_block (w:=w) a];exact h.fz o,
  Cq h.rj fun e d=>c e (.inr (.inl d)),Cq h.rh fun e d=>c e (.inr (.inr (.inl d))),h.a1,h.a2,h.a3,fun J f=>(h.job J f).same i fun b g=>c b (.inr (.inr (.inr ⟨J,f,g⟩))),h.off,h.dis,h.hin⟩
theorem GB.below(a:Ay w U):GB U V R Z v O N:=h.same a.size fun b c=>a.block b (h.footlt c)
end
theorem Adq(j:Re O){J a:JM}(h:J∈O)(i:a∈O)(g:J.jb=a.jb):J=a:=by
 obtain⟨e,c⟩:=Is h;obtain⟨f,b⟩:=Is i;by_cases d:e=f
 ·subst d;rw[c] at b;exact FH b
 ·exact absurd (.inl g) (j e f J a c b d J.jb (.inl rfl))
theorem AdU(f:Re O){J:JM}(c:J∈O):Ov O J.jb=(((J.m.used:Nat):Int),((J.num:Nat):Int)):=by
 unfold Ov;cases b:O.find? fun a=>a.jb==J.jb with
 |none=>have:=NO.1 b J c;simp at this
 |some a=>
  have d:=AaL b;have e:=List.find?_some b;have:a=J:=Adq f d c (by simpa using e);rw[this]
section
variable(h:GB w V R Z v O N)
include h
theorem GB.key{J:JM}(a:J∈O):KM (Ov O) w J.jb:=by unfold KM;rw[AdU h.dis a];exact⟨(h.job J a).cel 0 _ rfl,(h.job J a).cel 3 _ rfl⟩
theorem GB.hq:HQ (Ov O) V 2 v w N:=
 ⟨h.c2,h.fz 2,h.rh,h.a2,fun b c=>by
  obtain⟨J,a,rfl⟩:=h.hin b c;have:=h.off J a J.jb (.inl rfl)
  exact⟨h.key a,this.2.2,this.1⟩⟩
theorem GB.heap(k:HQ (Ov O) V 2 v' U hp')(hF:Fr (fun b=>b=V\/v.ownBlock=some b) w U)(i:Iw V 2 w U)(j: ∀c,v'.ownBlock=some c->v.ownBlock=some c\/w.heap.size<=c)(m: ∀b∈hp',∃J∈O,J.jb=b):
 GB U V R Z v' O hp'/\RM V Z v O Z v' O w U:=by
 have l: ∀J∈O,∀b,J.foot b->U.heap[b]? =w.heap[b]? :=fun J e b f=>hF.block b ((h.job J e).footlt f) (by
  have:=h.off J e b f;rintro(a|a)
  ·exact this.1 a
  ·exact this.2.2 a)
 refine⟨⟨by rw[(i 0).1 (by omega)];exact h.c0,by rw[(i 1).1 (by omega)];exact h.c1,k.cel,fun o=>by rw[(i o).2];exact h.fz o,Cq h.rj fun c a=>hF.block c (h.rj.lt c a).2 (by
  rintro(g|g)
  ·exact h.a1 (by rw[a,g])
  ·exact h.a3 c a g),k.own,h.a1,k.ne,fun c a g=> ?_,fun J e=>(h.job J e).same hF.size (l J e),fun J e b f=> ?_,h.dis,m⟩,⟨hF.weak fun c _ a=> ?_,fun b f=> ?_⟩⟩
 ·rcases j c g with d|d
  ·exact h.a3 c a d
  ·have:=(h.rj.lt c a).2;omega
 ·have:=h.off J e b f;refine⟨this.1,this.2.1,fun a=> ?_⟩;rcases j b a with d|d
  ·exact this.2.2 d
  ·have:=(h.job J e).footlt f;omega
 ·rcases a with a|a
  ·exact .inl a
  ·exact .inr (.inr (.inl a))
 ·rcases f with a|a|a|a
  ·exact .inl (.inl a)
  ·exact .inl (.inr (.inl a))
  ·rcases j b a with d|d
   ·exact .inl (.inr (.inr (.inl d)))
   ·exact .inr d
  ·exact .inl (.inr (.inr (.inr a)))
theorem GB.turn{J k:JM}{g:Nat}(q:O[g]? =some J)(L:GZ U k)(F:k.jb=J.jb)(z: ∀b,k.foot b->J.foot b\/w.heap.size<=b)(hF:Fr J.foot w U):
 GB U V R Z v (O.set g k) N/\RM V Z v O Z v (O.set g k) w U:=by
 have B:J∈O:=Ct q;have H:g<O.length:=(BH.1 q).1;have P:O[g]=J:=(BH.1 q).2;have u:=h.off J B;have t: ∀b,b<w.heap.size-> ¬J.foot b->U.heap[b]? =w.heap[b]? :=fun b l K=>hF.block b l K;have x:=t V h.lt (fun d=>(u V d).1 rfl)
 have y: ∀a,(O.set g k)[a]? =if g=a then some k else O[a]? :=fun a=>by
  rw[List.getElem?_set];by_cases d:g=a
  ·subst d;rw[Ag rfl,Ag rfl,Ag H]
  ·rw[Ae d,Ae d]
 have C: ∀f∈O.set g k,f=k\/ ∃a,a≠g/\O[a]? =some f:=fun f m=>by
  obtain⟨a,e⟩:=Is m;rw[y] at e;by_cases d:g=a
  ·rw[Ag d] at e;exact .inl (FH e).symm
  ·rw[Ae d] at e;exact .inr ⟨a,fun n=>d n.symm,e⟩
 have I: ∀a f,a≠g->O[a]? =some f-> ∀b,f.foot b-> ¬k.foot b:=fun a f r e b i s=>by
  rcases z b s with l|l
  ·exact h.dis a g f J e q r b i l
  ·have:=(h.job f (Ct e)).footlt i;omega
 have Q:(O.set g k).map (fun J=>Jm J.jb)=O.map fun J=>Jm J.jb:=by
  rw[J5,F];apply List.ext_getElem?;intro a;rw[List.getElem?_set];by_cases d:g=a
  ·subst d;simp[H,P]
  ·rw[Ae d]
 have T: ∀j,Z.ownBlock=some j->U.heap[j]? =w.heap[j]? :=fun j d=>t j (h.rj.lt j d).2 fun n=>(u j n).2.1 d;have S: ∀j,v.ownBlock=some j->U.heap[j]? =w.heap[j]? :=fun j d=>t j (h.rh.lt j d).2 fun n=>(u j n).2.2 d;refine⟨⟨by rw[World.cell?_of_block (w:=w) x];exact h.c0,by rw[World.cell?_of_block (w:=w) x];exact h.c1,by rw[World.cell?_of_block (w:=w) x];exact h.c2,fun o=>by rw[World.frozen?_of_block (w:=w) x];exact h.fz o,?_,Cq h.rh S,h.a1,h.a2,h.a3,fun f m=> ?_,fun f m b i=> ?_,fun a c A D e p M b i s=> ?_,fun b i=> ?_⟩,⟨hF.weak fun j _ d=>.inr (.inr (.inr ⟨J,B,d⟩)),fun b i=> ?_⟩⟩
 ·rw[Q,Lq];exact Cq h.rj T
 ·rcases C f m with rfl|⟨a,r,e⟩
  ·exact L
  ·have G:=Ct e;exact(h.job f G).same hF.size fun b i=>t b ((h.job f G).footlt i) (h.dis a g f J e q r b i)
 ·rcases C f m with rfl|⟨a,r,e⟩
  ·rcases z b i with l|l
   ·exact u b l
   ·exact⟨by have:=h.lt;omega,fun d=>by have:=(h.rj.lt b d).2;omega,fun d=>by have:=(h.rh.lt b d).2;omega⟩
  ·exact h.off f (Ct e) b i
 ·rw[y] at e p;by_cases E:g=a
  ·rw[Ag E] at e;cases e;rw[Ae (by omega)] at p;exact I c D (by omega) p b s i
  ·rw[Ae E] at e;by_cases n:g=c
   ·rw[Ag n] at p;cases p;exact I a A (by omega) e b i s
   ·rw[Ae n] at p;exact h.dis a c A D e p M b i s
 ·obtain⟨f,m,rfl⟩:=h.hin b i;obtain⟨a,e⟩:=Is m;by_cases d:g=a
  ·subst d;rw[q] at e;cases e;exact⟨k,Ct (i:=g) (by rw[y,Ag rfl]),F⟩
  ·exact⟨f,Ct (i:=a) (by rw[y,Ae d];exact e),rfl⟩
 ·rcases i with d|d|d|⟨f,m,d⟩
  ·exact .inl (.inl d)
  ·exact .inl (.inr (.inl d))
  ·exact .inl (.inr (.inr (.inl d)))
  ·rcases C f m with rfl|⟨a,r,e⟩
   ·rcases z b d with l|l
    ·exact .inl (.inr (.inr (.inr ⟨J,B,l⟩)))
    ·exact .inr l
   ·exact .inl (.inr (.inr (.inr ⟨f,Ct e,d⟩)))
theorem GB.more{J:JM}(D:GZ w J)(n: ∀b,J.foot b-> ¬Lr V Z v O b){f cap:Nat}{A:Obj}{k:World}(r:(w.alloc A).grownBy k Z.ownBlock)(ac:k.ownsRow 0 103 1 (Ar f (O.length+1) cap) (O.length+1) ((O.map fun J=>Jm J.jb)++[Jm J.jb]))(K:Z.ownBlock=some f\/w.heap.size<=f):
 GB (k.setCell (Ac V 1) (Ar f (O.length+1) cap)) V R (Ar f (O.length+1) cap) v (O++[J]) N/\Fr (Lr V Z v O) w (k.setCell (Ac V 1) (Ar f (O.length+1) cap)):=by
 have T:Ay w (w.alloc A):=AP;have C:Fr (fun b=>Z.ownBlock=some b) w k:=(Fr.of_below T).trans ⟨r.os,r.tape,r.output,r.size,fun i ab s=>r.block i ab fun d=>s d.symm⟩;have X:Fr (fun b=>b=V) k (k.setCell (Ac V 1) (Ar f (O.length+1) cap)):=⟨rfl,rfl,rfl,by simp[World.setCell],fun b _ s=>Below.heap_setCell _ _ _ _ s⟩;have hF:Fr (fun b=>b=V\/Z.ownBlock=some b) w (k.setCell (Ac V 1) (Ar f (O.length+1) cap)):=(C.weak fun i _ d=>.inr d).trans (X.weak fun i _ d=>.inl d);have Q:=h.lt
 have M:f≠V:=by
  rcases K with d|d
  ·intro j;exact h.a1 (by rw[d,j])
  ·omega
 have x:(Value.slice (some (Ac f 0)) (O.length+1) cap).ownBlock=some f:=rfl;have E:Iw V 1 w (k.setCell (Ac V 1) (Ar f (O.length+1) cap)):=(Iw.of_block (C.block V Q h.a1)).trans (Iw.set _ _ _ _);have U:k.cell? (Ac V 1)=some Z:=by rw[World.cell?_of_block (w:=w) (C.block V Q h.a1)];exact h.c1
 have H: ∀b,b<w.heap.size->Z.ownBlock≠some b->f≠b:=fun b e s d=>by
  rcases K with j|j
  ·exact s (by rw[j,d])
  ·omega
 refine⟨⟨by rw[(E 0).1 (by omega)];exact h.c0,DW _ _ _ U,by rw[(E 2).1 (by omega)];exact h.c2,fun o=>by rw[(E o).2];exact h.fz o,?_,Cq h.rh fun i d=>hF.block i (h.rh.lt i d).2 ?_,fun d=>M (by rw[x] at d;exact FH d),h.a2,fun i d j=> ?_,fun l g=> ?_,fun l g b e=> ?_,fun a c y t Y L aa b e F=> ?_,fun b e=> ?_⟩,hF.weak fun i _ d=>d.elim .inl fun d=>.inr (.inl d)⟩
 ·rw[AG,E6];exact Cq ac fun i d=>by rw[x] at d;have:f=i:=FH d;exact Below.heap_setCell _ _ _ _ (by intro q;exact M (this.trans q))
 ·rintro(j|j)
  ·exact h.a2 (by rw[d,j])
  ·exact h.a3 i j d
 ·rw[x] at d;have:f=i:=FH d;subst this;exact H f (h.rh.lt f j).2 (fun q=>h.a3 f q j) rfl
 ·rcases BD.1 g with g|g
  ·exact(h.job l g).same hF.size fun b e=>hF.block b ((h.job l g).footlt e) (by
    have:=h.off l g b e;rintro(d|d)
    ·exact this.1 d
    ·exact this.2.1 d)
  ·rw[Hk] at g;subst g
   exact D.same hF.size fun b e=>hF.block b (D.footlt e) (by
    rintro(d|d)
    ·exact n b e (.inl d)
    ·exact n b e (.inr (.inl d)))
 ·rw[x];rcases BD.1 g with g|g
  ·have:=h.off l g b e;exact⟨this.1,fun d=>H b ((h.job l g).footlt e) this.2.1 (FH d),this.2.2⟩
  ·rw[Hk] at g;subst g;exact⟨fun d=>n b e (.inl d),fun d=>H b (D.footlt e) (fun q=>n b e (.inr (.inl q))) (FH d),fun d=>n b e (.inr (.inr (.inl d)))⟩
 ·have G: ∀m(u:JM),(O++[J])[m]? =some u->(m<O.length/\O[m]? =some u)\/(m=O.length/\u=J):=fun m u p=>by
   by_cases P:m<O.length
   ·rw[CR P] at p;exact .inl ⟨P,p⟩
   ·rw[CS (by omega)] at p
    have:m -O.length=0:=by
     by_cases W:m -O.length=0
     ·exact W
     ·rw[NQ (by simp;omega)] at p;cases p
    rw[this] at p;exact .inr ⟨by omega,(FH p).symm⟩
  rcases G a y Y with⟨S,I⟩|⟨S,rfl⟩
  ·rcases G c t L with⟨z,B⟩|⟨z,rfl⟩
   ·exact h.dis a c y t I B aa b e F
   ·exact n b F (.inr (.inr (.inr ⟨y,Ct I,e⟩)))
  ·rcases G c t L with⟨z,B⟩|⟨z,rfl⟩
   ·exact n b e (.inr (.inr (.inr ⟨t,Ct B,F⟩)))
   ·omega
 ·obtain⟨l,g,d⟩:=h.hin b e;exact⟨l,Iu _ g,d⟩
end
end
theorem Ag8{w:World}{base b:Nat}{c:TypeId}{size:Nat}{v:Value}{d:Nat}{e:List Value}(h:w.ownsRow base c size v d e)(i:b<=base):w.ownsRow b c size v d e:=by
 obtain⟨g,a⟩:=h;refine⟨g,?_⟩;rcases a with a|⟨f,cap,Ad,k,j,l⟩
 ·exact .inl a
 ·exact .inr ⟨f,cap,Ad,k,AT i j,l⟩
section
variable{w U D:World}{V R:Nat}{Z v M v':Value}{O C:List JM}{N hp':List Nat}{J:JM}
theorem GZ.outs(h:GZ w J):w.ownsRow 0 3 1 J.ov J.m.out.length (J.m.out.map (.int .i64)):=by
 rcases h.ouv with a|⟨b,c⟩
 ·rw[a];exact h.mc.rows.ou
 ·rw[b,c];exact World.ownsRow_nil _ _ _ _
def JM.told(J:JM):Nat×List Int×Nat:=(J.m.over.getD 0,J.m.out,J.m.used)
end
theorem AfE{w b:World}{d:Array Value}{s:TypeId}(h:Below (w.alloc (.cells d s)).heap.size (w.alloc (.cells d s)) b):
 (∀a c,d[a]? =some c->b.cell? (Ac w.heap.size a)=some c)/\(∀a,b.frozen? (Ac w.heap.size a)=false)/\Ay w b:=by
 refine⟨fun a c e=> ?_,fun a=> ?_,AP.trans (h.mono (by simp))⟩
 ·rw[h.cell (p:=Ac w.heap.size a) (by simp),Cl];exact e
 ·rw[h.frozen (p:=Ac w.heap.size a) (by simp)];exact Gc _ _ _ _
theorem Gy.below{w U:World}{a:Nat}{b:List Int}(h:Gy w a b)(c:Ay w U):Gy U a b:=(c.block a (Ju.1 h).1).trans h
theorem Zg{w:World}{base:Nat}{a:Option Addr}{b cap:Nat}{c:List Int}(h:w.ownsRow base 3 1 (.slice a b cap) b (c.map (.int .i64)))(d:c.length=b)(e:b<=60):Ia w (.slice a b cap) c:=by subst d;exact Ia.own h (by omega)
theorem Gy.at_{w:World}{c:Nat}{b:List Int}(h:Gy w c b)(j:b.length<=17592186044000)(i: ∀d∈b,-9223372036854775808<=d/\d<=9223372036854775807):En w (Ar c b.length (b.length+2)) b:=by obtain⟨a,cap,e,f,g⟩:=h.ints (by unfold maxLen;omega);exact⟨a,cap,e,f,i,g⟩
section
variable{w:World}{wb lo:Nat}{Y:Value}{rs:List Value}{q:Nat}
theorem EG.lists{m:World}{n B i:Nat}{y:List Int}{p:Value}{G:List Value}{F:Nat}(h:EG w wb lo Y rs)(A:rs.length=4*q)(ah:q<=900)(T:lo<=w.heap.size)(r:Ay w m)(Q:n=w.heap.size)(P:Gy m n y)(S:y.length<=17592186044000)(N:m.ownsRow F 3 1 p B G)(s:B<=60)(ag:n<F)(am:n<i)(an:i<m.heap.size)(W:p.ownBlock≠some i):
 Ah 45 #[.pointer (some (Ac wb 2)),Ar n y.length (y.length+2)] m fun d U=>d=.returned A6/\Hid (Fr (fun e=>e=wb\/Y.ownBlock=some e\/e=n) m U/\Ah 45 #[.pointer (some (Ac wb 2)),p] U.drew fun d C=>d=.returned A6/\C.heap[i]? =U.heap[i]? /\Hid (∃X H,EG C wb lo X H/\H.length=4*(q+2)/\Fr (fun e=>e=wb\/Y.ownBlock=some e) w C)):=by
 subst Q;have K:=h.below r;have al:wb<w.heap.size:=De h.cel;have u:=h.own.lt;have l:=N.lt;have ak:=r.size;refine(XN K A (by omega) (P.row T (by unfold maxLen;omega)) S (by simp[Value.ownBlock];omega) (fun e d f=>by have:=(u e f).2;simp[Value.ownBlock] at d;omega) (fun v g e d f=>by have:=(h.apt v g e d).2.2;simp[Value.ownBlock] at f;omega) (by omega)).mono ?_;rintro d j⟨rfl,I⟩;obtain⟨x,a,b,c,L,k,z⟩:=I.out
 have V:j.ownsRow lo 3 1 p B G:=Ag8 (Cq N fun e d=>k.block e (l e d).2 (by
  have:=(l e d).1;rintro(f|f|f)
  ·omega
  ·have:=(u e f).2;omega
  ·simp[Value.ownBlock] at f;omega)) (by omega)
 have E: ∀v∈[x,a,b,c],∀e,v.ownBlock=some e->p.ownBlock≠some e:=fun v g e d f=>by
  have ae:=l e f;rcases z v g e d with t|t|t
  ·have:=(u e t).2;omega
  ·simp[Value.ownBlock] at t;omega
  ·omega
 have D:Fr (fun e=>e=wb\/Y.ownBlock=some e\/e=w.heap.size) m j:=k.weak fun e _ d=>by
  rcases d with d|d|d
  ·exact .inl d
  ·exact .inr (.inl d)
  ·exact .inr (.inr (by simpa[Value.ownBlock] using d.symm))
 refine⟨rfl,D,?_⟩;have M:=L.below (Below.refl j.heap.size j).drew;refine(XN M (q:=q+1) (by rw[AG,A];simp;omega) (by omega) (Cq V fun e _=>rfl) (by omega) (fun d=>by have:=(l wb d).1;omega) (fun e d f=>E x (by simp) e f d) (fun v g e d f=> ?_) (by have:=k.size;show lo<=j.heap.size;omega)).mono ?_
 ·rcases BD.1 g with g|g
  ·have:=(h.apt v g e d).2.2;have:=(l e f).1;omega
  ·rcases C0.1 g with rfl|g
   ·have:=(l e f).1;simp[Value.ownBlock] at d;omega
   ·exact E v (F8 _ g) e d f
 ·rintro d aa⟨rfl,J⟩;obtain⟨Z,ab,ac,ad,O,o,af⟩:=J.out;have ai:=k.size;have aj:j.heap.size<=aa.heap.size:=o.size;refine⟨rfl,o.block i (show i<j.heap.size by omega) ?_,Z,_,O,by rw[AG,AG,A];simp;omega,o.os.trans (k.os.trans r.os),o.tape.trans (k.tape.trans r.tape),o.output.trans (k.output.trans r.output),by omega,fun e R s=> ?_⟩
  ·rintro(d|d|d)
   ·omega
   ·rcases z x (by simp) i d with f|f|f
    ·have:=(u i f).2;omega
    ·simp[Value.ownBlock] at f;omega
    ·omega
   ·exact W d
  ·rw[o.block e (show e<j.heap.size by omega) ?_]
   ·show j.heap[e]? =_
    rw[D.block e (by omega) (by
     rintro(d|d|d)
     ·exact s (.inl d)
     ·exact s (.inr d)
     ·omega)]
    exact r.block e R
   ·rintro(d|d|d)
    ·exact s (.inl d)
    ·rcases z x (by simp) e d with f|f|f
     ·exact s (.inr f)
     ·simp[Value.ownBlock] at f;omega
     ·omega
    ·have:=(l e d).1;omega
theorem TT(ax:Pn)(h:EG w wb lo Y rs)(a6:rs.length=4*q)(a7:q<=900)(a5:lo<=w.heap.size)(s:Af)(v:Value)(e:List Int)(n:Int)(C:En w v e)(a1:Ir v)(N:e.length<=17592186044000)(a2: -9223372036854775808<=n)(a3:n<=9223372036854775807):
 Ah 15 #[Al wb,.string s,v,Aa n] w fun b U=>b=.returned (.bool true)/\Hid (∃X E,EG U wb lo X E/\E.length=4*(q+2)/\Fr (fun i=>i=wb\/Y.ownBlock=some i) w U):=by
 have Z:=Ad0 v e w C (by omega);have S:Hid (En w v e):=C;have aj: ∀ak∈e,-9223372036854775808<=ak/\ak<=9223372036854775807:=by obtain⟨_,_,_,_,a9,_⟩:=C;exact a9
 have G:Hid (∀a,Gy a w.heap.size e->Ah 19 #[.string s,Ar w.heap.size e.length (e.length+2),Aa n] a (Mf (Fa s.data.toList e n) a)):=fun a aw=>(Ahh s _ e n a (aw.at_ N aj) (by omega)).mono fun b U ar=>Aa5 ar;have F:Hid (∀a,Ay w a->Ah 42 #[.string s,v,Aa n] a (Mf (Fa s.data.toList e n) a)):=fun a r=>ax s v e n a (C.under r) a1 N a2 a3;have I:Hid (EG w wb lo Y rs):=h;obtain⟨bb,bc,rfl,_⟩:=C;generalize Fa s.data.toList e n=ba at*;obtain⟨⟨f,out,g⟩,c,p⟩:=ba;unfold Mf at G F;dsimp only at G F;clear h aj;generalize ai:out.length=on at*;go_enter func15,ntmps15;go_upto_region 2 with(go_at_call 41;refine Z.mono ?_;rintro b D⟨rfl,z,u⟩);have aa:=G.out D z.out;go_upto_region 3 with(go_at_call 19;refine aa.mono ?_;rintro b j⟨o,m,rfl,L,J,x⟩);have ac:Ay D (j.alloc (.cells #[Aa (f:Nat),.slice o on m,Aa (g:Nat)] 39)):=x.trans (AP.mono x.size);have ab:=F.out (j.alloc (.cells #[Aa (f:Nat),.slice o on m,Aa (g:Nat)] 39)) (u.trans (ac.mono u.size));go_upto_region 4 with(go_at_call 42;refine ab.mono ?_;rintro b d⟨l,k,rfl,_,V,M⟩);have y:Below (j.alloc (.cells #[Aa (f:Nat),.slice o on m,Aa (g:Nat)] 39)).heap.size (j.alloc (.cells #[Aa (f:Nat),.slice o on m,Aa (g:Nat)] 39)) (d.alloc (.cells #[Aa (f:Nat),.slice l on k,Aa (g:Nat)] 39)):=M.trans (AP.mono M.size);obtain⟨H,_,B⟩:=AfE y;have bj:=H 0 _ rfl;have al:=H 1 _ rfl;have bk:=H 2 _ rfl;have ae:Ay d (d.alloc (.cells #[Aa (f:Nat),.slice l on k,Aa (g:Nat)] 39)):=AP;have bl:(d.alloc (.cells #[Aa (f:Nat),.slice l on k,Aa (g:Nat)] 39)).cell? (Ac d.heap.size 0)=some (Aa (f:Nat)):=Cl d _ _ 0;have bm:(d.alloc (.cells #[Aa (f:Nat),.slice l on k,Aa (g:Nat)] 39)).cell? (Ac d.heap.size 1)=some (.slice l on k):=Cl d _ _ 1;have bn:(d.alloc (.cells #[Aa (f:Nat),.slice l on k,Aa (g:Nat)] 39)).cell? (Ac d.heap.size 2)=some (Aa (g:Nat)):=Cl d _ _ 2;have K:=JR J.out B;have W:=JR V.out ae;have ay:=AeD (o:=(f,out,g)) ⟨_,rfl,Zg K ai L⟩ ⟨_,rfl,Zg W ai L⟩;have t:Ay D (d.alloc (.cells #[Aa (f:Nat),.slice l on k,Aa (g:Nat)] 39)):=x.trans (B.mono x.size);have ag:w.heap.size<D.heap.size:=(Ju.1 z.out).1;have aq:=x.size;have ap:Hid (∀a,Below (d.alloc (.cells #[Aa (f:Nat),.slice l on k,Aa (g:Nat)] 39)).heap.size (d.alloc (.cells #[Aa (f:Nat),.slice l on k,Aa (g:Nat)] 39)) a->Ah 44 #[(Ar w.heap.size e.length (e.length+2)),.slice bb e.length bc] a fun b U=>b=.returned (.bool true)/\Ay a U):=fun a r=>AiZ (z.out.below (t.trans (r.mono t.size))) ((S.out.under (u.trans ((t.trans (r.mono t.size)).mono u.size))).l) (by omega);have an:Hid (∀a,Below (d.alloc (.cells #[Aa (f:Nat),.slice l on k,Aa (g:Nat)] 39)).heap.size (d.alloc (.cells #[Aa (f:Nat),.slice l on k,Aa (g:Nat)] 39)) a->a.cell? (Ac j.heap.size 1)=some (.slice o on m)/\j.heap.size<a.heap.size/\Ah 45 #[.pointer (some (Ac wb 2)),(Ar w.heap.size e.length (e.length+2))] a fun b U=>b=.returned A6/\Hid (Fr (fun i=>i=wb\/Y.ownBlock=some i\/i=w.heap.size) a U/\Ah 45 #[.pointer (some (Ac wb 2)),.slice o on m] U.drew fun b O=>b=.returned A6/\O.heap[j.heap.size]? =U.heap[j.heap.size]? /\Hid (∃X E,EG O wb lo X E/\E.length=4*(q+2)/\Fr (fun i=>i=wb\/Y.ownBlock=some i) w O))):=fun a r=>by have af:a.cell? (Ac j.heap.size 1)=some (.slice o on m):=(r.cell (p:=Ac j.heap.size 1) (De al)).trans al;have ah:j.heap.size<a.heap.size:=De af;have ad:=t.trans (r.mono t.size);refine⟨af,ah,?_⟩;exact I.out.lists a6 a7 a5 (u.trans (ad.mono u.size)) rfl (z.out.below ad) N (JR K r) L ag (by omega) ah (fun b=>by have:=(J.out.lt _ b).2;omega)
 have R:Hid (wb<w.heap.size/\ ∀i,Y.ownBlock=some i->i<w.heap.size):=⟨De I.out.cel,fun i b=>(I.out.own.lt i b).2⟩;have bi:w.heap.size<j.heap.size:=by omega
 clear u x ac M y B ae t K W J V Z aa ab G F z H S ag aq;generalize(d.alloc (.cells #[Aa (f:Nat),.slice l on k,Aa (g:Nat)] 39))=bg at*;generalize j.heap.size=A at*;generalize d.heap.size=bh at*;go_upto_region 5 with(go_at_call 43;refine ay.mono ?_;rintro b bd⟨rfl,y⟩);have az:=ap.out bd y;go_upto_region 6 with(go_at_call 44;refine az.mono ?_;rintro b be⟨rfl,B⟩);obtain⟨a0,a4,au⟩:=an.out be (y.trans (B.mono y.size));go_upto_region 7 with(go_at_call 45;refine au.mono ?_;rintro b P⟨rfl,Q⟩);have av:=Q.out.2
 have T:Hid (P.drew.cell? (Ac A 1)=some (.slice o on m)):=by
  show P.cell? (Ac A 1)=_
  rw[Q.out.1.cell a4 (by
   rintro(b|b|b)
   ·have:=R.out.1;omega
   ·have:=R.out.2 A b;omega
   ·omega) 1]
  exact a0
 go_region_held3(fun a=>a.cell? (Ac A 1)=some (.slice o on m)) (first|exact T.out|exact ao.out) ((go_at_call 45;refine av.mono ?_;rintro b bf⟨rfl,a8,am⟩;have ao:Hid (bf.cell? (Ac A 1)=some (.slice o on m)):=(World.cell?_of_block (w:=P) a8).trans T.out))
 go_wp2_with(go_at_call 40;refine Aq (Yg _ _) ?_);go_ret;exact⟨by simp,am.out⟩
end
def UQ(w:World)(wb lo q:Nat)(Y:Value)(c:Ending)(U:World):Prop:=c=.returned (.bool true)/\Hid (∃X b,EG U wb lo X b/\b.length=4*(q+2)/\Fr (fun a=>a=wb\/Y.ownBlock=some a) w U)
theorem Ss{wb lo:Nat}{Y:Value}{rs:List Value}{w U:World}(h:EG w wb lo Y rs)(hF:Fr (fun a=>a=wb\/Y.ownBlock=some a) w U){b:Nat}(d:b<=wb)(f:b<=lo):Below b w U:=
 ⟨hF.os,hF.tape,hF.output,hF.size,fun a e=>hF.block a (by have:wb<w.heap.size:=De h.cel;omega) (by
  rintro(c|c)
  ·omega
  ·have:=(h.own.lt a c).1;omega)⟩
theorem AcD(l:Pn){w:World}{wb lo:Nat}{Y:Value}{rs:List Value}{q:Nat}(h:EG w wb lo Y rs)(n:rs.length=4*q)(o:q<=900)(m:lo<=w.heap.size):Ah 14 #[Al wb] w (UQ w wb lo q Y):=by have c:Ay w (w.alloc (.cells #[Aa 3] 3)):=AP;have k:=fun s=>TT l (h.below c) n o (AT m c.size) s (Ar w.heap.size 1 1) [3] 20 (Adi rfl [3] (by simp) (by simp)) (fun a t r d=>by injection d;omega) (by simp) (by omega) (by omega);have f:Hid (∀U X,Fr (fun b=>b=wb\/Y.ownBlock=some b) (w.alloc (.cells #[Aa 3] 3)) U->X=Y->Fr (fun b=>b=wb\/Y.ownBlock=some b) w U):=fun U X hF _=>(Fr.of_below c).trans hF;clear h;unfold UQ;go_enter func14,ntmps14;go_wp2_with(go_at_call 15;refine(k _).mono ?_;rintro d u⟨rfl,e⟩);go_ret;obtain⟨X,p,g,i,j⟩:=e.out;exact⟨rfl,X,p,g,i,f.out _ Y j rfl⟩
theorem AaW(g:Pn)(s:Af)(v:Value)(d:List Int)(b:Int)(w:World)(u:En w v d)(H:Ir v)(L:d.length<=17592186044000)(I: -9223372036854775808<=b)(J:b<=9223372036854775807):
 Ah 4 #[.string s,v,Aa b] w fun a U=>a=.returned (.bool true)/\Ay w U:=by
 have h:Ay w (w.alloc (.cells #[Aw,Aw,Aw] 31)):=AP
 have f:EG (w.alloc (.cells #[Aw,Aw,Aw] 31)) w.heap.size w.heap.size Aw []:=
  ⟨Cl w _ _ 2,Gc _ _ _ _,World.ownsRow_nil _ _ _ _,by simp[Value.ownBlock],fun T v K=>by simp at K,fun v M=>by cases M⟩
 have hF:=AcD g f (q:=0) rfl (by omega) h.size;have C:Hid (∀e,Ay w e->En e v d):=fun e F=>u.under F;have o:Hid (EG (w.alloc (.cells #[Aw,Aw,Aw] 31)) w.heap.size w.heap.size Aw []/\Ay w (w.alloc (.cells #[Aw,Aw,Aw] 31))):=⟨f,h⟩;obtain⟨X,Y,rfl,_⟩:=u;clear f h;go_enter func4,ntmps4;go_upto_region 3 with(go_at_call 14;refine hF.mono ?_;rintro a D⟨rfl,l⟩);obtain⟨P,N,j,R,z⟩:=l.out;have c:=o.out.2.trans ((Ss o.out.1 z (AA _) (AA _)).mono (AA _));have r:=TT g j (q:=2) R (by omega) c.size s _ d b (C.out D c) H L I J;have p:Hid (EG D w.heap.size w.heap.size P N/\Ay w D):=⟨j,c⟩;clear j z c l hF;go_upto_region 4 with(go_at_call 15;refine r.mono ?_;rintro a x⟨rfl,m⟩);obtain⟨Q,O,k,S,A⟩:=m.out;have i:=p.out.2.trans (Ss p.out.1 A (AA _) (AA _));have t:=fun s=>TT g k (q:=4) S (by omega) i.size s Aw [] 3000 (En.nil _) Ir.nil (by simp) (by omega) (by omega);have q:Hid (EG x w.heap.size w.heap.size Q O/\Ay w x):=⟨k,i⟩;clear k A i m r;go_upto_region 5 with(go_at_call 15;refine(t _).mono ?_;rintro a Z⟨rfl,n⟩);obtain⟨W,V,y,aa,B⟩:=n.out;have G:=q.out.2.trans (Ss q.out.1 B (AA _) (AA _));have E:=Aio y (by omega);clear y B n t;go_wp2_with(go_at_call 16;refine Aq E ?_);go_ret;exact⟨rfl,G⟩
