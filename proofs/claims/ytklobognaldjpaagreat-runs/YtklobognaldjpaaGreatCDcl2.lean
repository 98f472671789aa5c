/- The reference's walk as it runs: a list. The reference's wal -/
import Derived.Test.YtklobognaldjpaaGreatCRx18
import Derived.Test.YtklobognaldjpaaGreatCWk11
import Derived.Deep.RegionHeld3
import Derived.Deep.AppendLies
set_option maxRecDepth 1000000
set_option maxHeartbeats 8000000
namespace Go.Proofs.YtklobognaldjpaaGreat
open Go.Proofs.Tryz
open Go.RowKit
section
variable{E:Ao}{L:Prop}{wb X cap B:Nat}{T:List Az}{c:Nat}{ins:Int}{U:Value}{G:List GC}{O:Value}{H:List GC}{call:Dr}{d:Int}{w:World}{vi V:Value}{S:RS}{st:PS->St×PS}
theorem Ox: ∀(b a:List St),Bz E (b++a)=none->Bz E b=none/\Bz E a=none
 |[],a,h=>⟨by rw[Bz],h⟩
 |g::b,a,h=>by rw[IZ,Bz] at h;obtain⟨c,d⟩:=Bq h;obtain⟨e,f⟩:=Ox b a d;exact⟨by rw[Bz,c,e];rfl,f⟩
theorem XH: ∀(n:Nat)(a:List St)(s:PS),Bz E (BQ T st n a s).1=none->Bz E a=none
 |0,a,s,h=>by rw[BQ] at h;exact h
 |n+1,a,s,h=>by
  rw[BQ] at h;split at h
  ·exact(Ox a _ (XH n _ _ h)).1
  ·exact(Ox a _ h).1
theorem Qc(af:AR T)(a2:Cj T)(au:AM T st)(a0:SM T st)(ad:SK E L wb X cap B T c ins U G O H call 151 d st)(h:RA wb X cap B T c ins U G O H w vi V S){s:PS}(a3:An T s)(m:Bool)(a6:Av T s)(av:(AK T st s).2.code=0)(aw:Bz E (AK T st s).1=none)(a5:m=true->L):
 Ah 122 #[Al wb,Aa (s.next:Nat),Aa d,.bool m] w (SP wb X cap B T c ins U G O H (AK T st s).2.next (Eb B call m (AK T st s).1 S) w V):=by
 have bc:=h.siz;have ax:Hid (RA wb X cap B T c ins U G O H w vi V S):=h;have Z:Hid ((AK T st s).2.code=0/\Bz E (AK T st s).1=none):=⟨av,aw⟩;have M:Hid (∀Q∈JG,∀(P:World)(l f:Value)(N:RS)(a:PS),RA wb X cap B T c ins U G O H P l f N->An T a->Ah 94 #[Al wb,Aa (a.next:Nat),.string (bs Q)] P fun e Y=>e=.returned (.bool (Aj T (bs Q) a))/\Y=P):=fun Q a1 P l f N a ay a4=>Dw ay a4 rfl _ (a2 Q a1);clear h av aw;unfold SP;go_enter func122,ntmps122;go_wp2;go_loopw [1,9,10,11] (fun am _ _ _ wr=> ∃(a:PS)(i:List St)(n:Nat)(l f:Value),am=Aa (a.next:Nat)/\An T a/\Av T a/\T.length<=a.next+n/\Hid (BQ T st n i a=AK T st s)/\Hid (RA wb X cap B T c ins U G O H wr l f (Eb B call m i S)/\Kf wb G H V f w wr)) (fun am _ _ _ _=>T.length -(intOf am).toNat)
 case atStart=>exact⟨s,[],T.length,vi,V,rfl,a3,a6,by omega,rfl,by rw[Ag2];exact ax.out,Kf.refl _ _ _ _ _⟩
 case round=>
  obtain⟨a,i,n,l,f,rfl,y,aj,bb,aa,p⟩:=hrel;have a8:a.next<T.length:=y;obtain⟨r,rfl⟩: ∃r,n=r+1:=⟨n -1,by omega⟩;have bd:wr.cell? (Ac wb 2)=some (Aa 0):=p.out.1.cel 2 _ rfl;have D:=M.out [59] (by decide) wr l f _ a p.out.1 y;have F:=M.out [101,110,100] (by decide) wr l f _ a p.out.1 y;have al:AQ.toList≠[]:=I6 _ (by simp);obtain⟨k,b,j⟩: ∃k b,A7 T st a=(k,b):=⟨_,_,rfl⟩
  have az:An T b/\Av T b/\a.next<=b.next:=by
   unfold A7 at j;split at j
   ·cases j;exact⟨y,aj,AA _⟩
   ·cases j;exact⟨(au a y).1,(a0 a aj).1,(au a y).2⟩
  obtain⟨J,a7,ba⟩:=az;have a9:b.next<T.length:=J
  have C:(Aj T AQ b=true/\b.code=0/\BQ T st r (i++k) (Ab b)=AK T st s)\/(Aj T AQ b=false/\b.code=0/\AK T st s=(i++k,b)):=by
   have z:=aa.out;rw[BQ,j] at z;cases g:Aj T AQ b with
   |true=>rw[g,Ag rfl] at z;exact .inl ⟨rfl,Cp af a7 al g,z⟩
   |false=>
    rw[g,Ae (by simp)] at z;refine .inr ⟨rfl,?_,z.symm⟩;have:=Z.out.1;rw[<-z] at this;exact this
  have R:Bz E k=none:=by
   rcases C with⟨_,_,e⟩|⟨_,_,e⟩
   ·exact(Ox i k (XH r _ _ (by rw[e];exact Z.out.2))).2
   ·have:=Z.out.2;rw[e] at this;exact(Ox i k this).2
  have ag:b.code=0:=by rcases C with⟨_,e,_⟩|⟨_,e,_⟩<;>exact e
  have ao:Hid _:=C;have ah: ∀u v,Aj T AQ a=u->Aj T By a=v->(u||v)=false->Ah 151 #[Al wb,Aa (a.next:Nat),Aa d,.bool m] wr (SP wb X cap B T c ins U G O H b.next (Eb B call m (i++k) S) wr f):=fun u v o x ab=>by unfold A7 at j;rw[o,x,ab,Ae (by simp)] at j;cases j;rw[Ag1,Ag3];rw[Bz] at R;exact ad wr l f _ a _ m p.out.1 y rfl ag aj (Bq R).1 a5
  have ak: ∀u v,Aj T AQ a=u->Aj T By a=v->(u||v)=true->b=a/\Eb B call m (i++k) S=Eb B call m i S:=fun u v o x ab=>by unfold A7 at j;rw[o,x,ab,Ag rfl] at j;cases j;exact⟨rfl,by rw[IY]⟩
  have ap:Hid (Kf wb G H V f w wr):=p.out.2;cases o:Aj T AQ a<;>cases x:Aj T By a<;>rw[o] at D<;>rw[x] at F<;>simp only[bs] at D F
  ·have ae:=ah _ _ o x rfl;unfold SP at ae;clear ah ak p aa j C R ad;go_upto_region 3 with(go_at_call 94;refine Aq D ?_);go_upto_region 4 with(go_at_call 94;refine Aq F ?_);go_upto_region 6 with(go_at_call 151;refine ae.mono ?_;rintro e A⟨rfl,an⟩);obtain⟨W,K,ac,ar⟩:=an.out;have q:=M.out [59] (by decide) A W K _ b ac J;have I:Hid (RA wb X cap B T c ins U G O H A W K (Eb B call m (i++k) S)/\Kf wb G H V K w A):=⟨ac,ap.out.trans ar⟩;clear ac ar an ae D F;rcases ao.out with⟨g,_,e⟩|⟨g,_,e⟩<;>rw[g] at q<;>simp only[bs] at q
   ·have ai:=AD af J g al;have t:Hid _:=e;clear e g;go_wp2_with(go_at_call 94;refine Aq q ?_)
    go_roundw
    case rel=>exact⟨Ab b,i++k,r,W,K,by show _=Value.int .i64 ((b.next+1:Nat):Int);go_num,ai,A4 ag,by show _<=b.next+1+r;omega,t.out,I.out⟩
    case measure=>simp[intOf];omega
   ·have t:Hid _:=e;clear e g;go_wp2_with(go_at_call 94;refine Aq q ?_);go_ret;rw[t.out];exact⟨rfl,W,K,I.out⟩
  all_goals(
   obtain⟨rfl,aq⟩:=ak _ _ o x rfl;have q:=M.out [59] (by decide) wr l f _ b p.out.1 J;rw[o] at q;simp only[bs] at q;have I:Hid (RA wb X cap B T c ins U G O H wr l f (Eb B call m (i++k) S)/\Kf wb G H V f w wr):=⟨by rw[aq];exact p.out.1,ap.out⟩;clear ah ak p aa j R ad aq;rcases ao.out with⟨g,_,e⟩|⟨g,_,e⟩
   all_goals first|(exfalso;rw[g] at o;cases o;done)|skip)
  ·have t:Hid _:=e;clear e g C;go_upto_region 3 with(go_at_call 94;refine Aq D ?_);go_upto_region 4 with(go_at_call 94;refine Aq F ?_);go_wp2_with(go_at_call 94;refine Aq q ?_);go_ret;rw[t.out];exact⟨rfl,l,f,I.out⟩
  all_goals(
   have ai:=AD af J g al;have t:Hid _:=e;clear e g C;go_upto_region 3 with(go_at_call 94;refine Aq D ?_);go_upto_region 4 with(go_at_call 94;refine Aq F ?_);go_wp2_with(go_at_call 94;refine Aq q ?_)
   go_roundw
   case rel=>exact⟨Ab b,i++k,r,l,f,by show _=Value.int .i64 ((b.next+1:Nat):Int);go_num,ai,A4 ag,by show _<=b.next+1+r;omega,t.out,I.out⟩
   case measure=>simp[intOf];omega)
variable{Y:World}
theorem OF(h:RA wb X cap B T c ins U G O H w vi V S){s:PS}(a:An T s){i:Int}(g:i=s.next){d:Int}(b:(Ad T s).kind.r=d):
 Ah 124 #[Al wb,Aa i,Aa d] w fun f Y=>f=.returned (Aa ((s.next:Int)+1))/\Y=w:=by
 subst g;have j:w.cell? (Ac wb 2)=some (Aa 0):=h.cel 2 _ rfl;have m:w.cell? (Ac wb 0)=some (Ar X T.length cap):=h.cel 0 _ rfl;have l:=h.siz;have k:(s.next:Int)<T.length:=by unfold An at a;omega
 obtain⟨e,_,_⟩:=h.curCells a;rw[b] at e;clear h b;go_enter func124,ntmps124;go_wp2;go_ret;exact⟨rfl,rfl⟩
end
structure Fj(E:Ao)(G H:List GC):Prop where
 pre: ∃t,G.map GC.sy=E.glob++t
 var: ∀g∈G,g.kind=0-> ∃a cap,g.vv=.slice a 1 cap
 her: ∃R,H.map GC.sy=E.here++R/\ ∀y∈R,y.kind=3/\ ∃x∈G.map GC.sy,x.kind=3/\x.name.toList=y.name.toList
 zer: ∀y∈E.here,y.kind=0
theorem Og{c:List Sy}{n:Af}{b:Nat}: ∀(a:Nat),DQ c n a=some b->b<a/\(c.getD b default).name.toList=n.toList
 |0,h=>by cases h
 |a+1,h=>by
  rw[DQ] at h;split at h
  ·rename_i d;cases h;exact⟨by omega,eq_of_beq d⟩
  ·have:=Og a h;exact⟨by omega,this.2⟩
theorem VT{c:List Sy}{n:Af}: ∀(b:Nat),DQ c n b=none-> ∀a,a<b->(c.getD a default).name.toList≠n.toList
 |0,_,a,g=>by omega
 |b+1,h,a,g=>by
  rw[DQ] at h;split at h
  ·cases h
  ·rename_i d;by_cases e:a=b
   ·subst e;intro f;exact d (by rw[f];simp)
   ·exact VT b h a (by omega)
theorem OZ{b:List Sy}{a:Nat}(h:a<b.length):b[a]? =some (b.getD a default):=by rw[Dg,Bb h];rfl
theorem MJ{c:List Sy}{n:Af}(h:A9 c n=none): ∀d∈c,d.name.toList≠n.toList:=fun d e=>by obtain⟨f,a⟩:=Is e;have b:=(BH.1 a).1;have:=VT _ h f b;rw[OZ b] at a;cases a;exact this
theorem Ts{L:List GC}{k:Nat}{y:Sy}(h:(L.map GC.sy)[k]? =some y): ∃a,L[k]? =some a/\a.sy=y:=by
 rw[CC] at h;cases b:L[k]? with
 |none=>rw[b] at h;cases h
 |some a=>rw[b] at h;cases h;exact⟨a,rfl,rfl⟩
section
variable{E:Ao}{wb X cap B:Nat}{T:List Az}{c:Nat}{ins:Int}{U:Value}{G:List GC}{O:Value}{H:List GC}{w Y:World}{vi V:Value}{S N:RS}
theorem Fj.got(h:Fj E G H){n:Af}{b:Nat}(g:A9 E.glob n=some b): ∃a,G[b]? =some a/\a.name.toList=n.toList/\(E.glob.getD b default)=a.sy:=by obtain⟨d,e⟩:=Og _ g;obtain⟨j,i⟩:=h.pre;obtain⟨a,f,c⟩:=Ts (L:=G) (k:=b) (y:=E.glob.getD b default) (by rw[i,CR d];exact OZ d);exact⟨a,f,by rw[<-c] at e;exact e,c.symm⟩
theorem Fj.varAt(h:Fj E G H)(j:RA wb X cap B T c ins U G O H w vi V S){n:Af}(e:(E.kindIx n).1=0):Lv G H S n:=by
 obtain⟨v,q,y⟩:=h.her;unfold Ao.kindIx at e;cases k:A9 E.here n with
 |some d=>
  obtain⟨s,r⟩:=Og _ k;obtain⟨a,b,f⟩:=Ts (L:=H) (k:=d) (y:=E.here.getD d default) (by rw[q,CR s];exact OZ s);exact .inl ⟨d,a,b,by rw[<-f] at r;exact r⟩
 |none=>
  rw[k] at e;cases l:A9 E.glob n with
  |none=>rw[l] at e;cases e
  |some d=>
   rw[l] at e;obtain⟨a,b,f,x⟩:=h.got l;have t:a.kind=0:=by have:((E.glob.getD d default).kind:Int)=0:=e;rw[x] at this;have:((a.kind:Nat):Int)=0:=this;omega
   refine .inr ⟨fun i A o=> ?_,d,a,?_⟩
   ·have g:i.sy∈E.here++v:=by rw[<-q];exact CD.2 ⟨i,A,rfl⟩
    rcases BD.1 g with g|g
    ·exact MJ k _ g o
    ·obtain⟨_,R,C,u,K⟩:=y _ g;obtain⟨L,D,rfl⟩:=CD.1 C;obtain⟨F,m⟩:=Is D;have:=j.nd.1.1 F d L a m b (K.trans (o.trans f.symm));subst this;rw[b] at m;cases m;rw[show a.sy.kind=a.kind from rfl,t] at u;cases u
   ·obtain⟨i,I,_,J⟩:=MO j.gv j.nd.1 b f;obtain⟨M,P,z⟩:=h.var a (Ct b) t;obtain⟨N,c2,p,_⟩:=D9 J;rw[z] at p;injection p with _ Q _;exact⟨i,b,f,I,by omega⟩
theorem Fj.outAt(h:Fj E G H){n:Af}{kind:Nat}(r:kind≠0)(a:(E.kindIx n).1=kind): ∃c b,J7 G H n c b/\b.kind=kind/\b.args=E.args n:=by
 obtain⟨j,o,p⟩:=h.her;unfold Ao.kindIx at a;cases f:A9 E.here n with
 |some c=>rw[f] at a;exact absurd (show((kind:Nat):Int)=0 from a.symm) (by omega)
 |none=>
  rw[f] at a;unfold Ao.args;cases g:A9 E.glob n with
  |none=>rw[g] at a;exact absurd (show((kind:Nat):Int)= -1 from a.symm) (by omega)
  |some c=>
   rw[g] at a;obtain⟨b,l,m,i⟩:=h.got g;refine⟨c,b,⟨l,m,fun e q k=> ?_⟩,?_,by show b.args=(E.glob.getD c default).args;rw[i];rfl⟩
   ·have d:e.sy∈E.here++j:=by rw[<-o];exact CD.2 ⟨e,q,rfl⟩
    rcases BD.1 d with d|d
    ·exact absurd k (MJ f _ d)
    ·have:=(p _ d).1;rw[show e.sy.kind=e.kind from rfl] at this;omega
   ·have:((E.glob.getD c default).kind:Int)=kind:=a;rw[i] at this;have:((b.kind:Nat):Int)=kind:=this;omega
variable{c':Nat}{M:Int}{Z:Value}{H':List GC}{I K:World}
theorem QH{w:World}{base b:Nat}{a:TypeId}{size:Nat}{c:Value}{n:Nat}{d:List Value}(h:w.ownsRow base a size c n d)(f:b<=base):w.ownsRow b a size c n d:=⟨h.1,h.2.imp id fun⟨e,cap,Ad,a,g,r⟩=>⟨e,cap,Ad,a,AT f g,r⟩⟩
theorem KT{a b:Value}(h:Df a b):Df b a:=fun e c d=>h e d c
theorem Sc:(BO U O V G H).Perm (O::([U,V]++G.map GC.vv++H.map GC.vv++G.map GC.cv)):=by unfold BO;simp only[IZ,Hl];exact List.Perm.swap _ _ _
theorem Ab0{a:GC}:(BO U O V G (H++[a])).Perm (O::a.vv::([U,V]++G.map GC.vv++H.map GC.vv++G.map GC.cv)):=by refine Sc.trans (List.Perm.cons _ ?_);have:= @Ru _ a.vv ([U,V]++G.map GC.vv++H.map GC.vv) (G.map GC.cv);simpa using this
theorem PH:(BO U O V G H).Pairwise Df↔(∀a∈[U,V]++G.map GC.vv++H.map GC.vv++G.map GC.cv,Df O a)/\([U,V]++G.map GC.vv++H.map GC.vv++G.map GC.cv).Pairwise Df:=by rw[Sc.pairwise_iff (fun h=>KT h),Hm]
section
variable(h:RA wb X cap B T c ins U G O H w vi V S)
include h
theorem RA.low: ∀g∈BO U O V G H,∀a,g.ownBlock=some a->wb<a/\a<w.heap.size:=by
 have f: ∀{G:List GC}{m:List (Af×List Int)},Hn wb w G m-> ∀b∈G,∀a,b.vv.ownBlock=some a->wb<a/\a<w.heap.size:=fun i b d a c=>by obtain⟨k,j⟩:=Is d;obtain⟨n,_,_,l⟩:=i.2 k b j;exact l.lt a c
 intro g e a c;unfold BO at e;simp only[BD,C0,I0,Jl,CD] at e;rcases e with(((rfl|rfl|rfl)|⟨b,d,rfl⟩)|⟨b,d,rfl⟩)|⟨b,d,rfl⟩
 ·exact h.gro.lt a c
 ·exact h.hro.lt a c
 ·exact h.oro.lt a c
 ·exact f h.gv b d a c
 ·exact f h.hv b d a c
 ·exact(h.cvr b d).lt a c
theorem RA.swap(F:w.heap.size<=Y.heap.size)(m: ∀a,a≠wb->O.ownBlock≠some a->a<w.heap.size->Y.heap[a]? =w.heap[a]?)(z:GX wb Y (Dy X cap T.length U Z M vi V B c' N))(I: ∀o,Y.frozen? (Ac wb o)=false)(E:Y.ownsRow (wb+1) 207 6 Z H'.length (H'.flatMap GC.row))(H:Hn wb Y H' N.hs)(l:(BO U Z V G H').Pairwise Df)(y: ∀d∈N.hs,∀g∈d.2,VB g)(D:G1 H')(k:N.glob=S.glob)(q:N.input=S.input)(v:N.out=S.out)(x:N.used<=B):RA wb X cap B T c' M U G Z H' Y vi V N:=by
 have R:=h.lt;have C:=h.low;have r: ∀a,O.ownBlock=some a->wb<a:=fun a b=>(C O (by unfold BO;simp) a b).1;have j: ∀{b:TypeId}{s:Nat}{g:Value}{n:Nat}{t:List Value},w.ownsRow (wb+1) b s g n t->Df O g->Y.ownsRow (wb+1) b s g n t:=fun p l=>Cq p fun a b=>m a (by have:=(p.lt a b).1;omega) (fun u=>l a u b) (p.lt a b).2;have i:=(PH.1 h.apt).1;refine⟨z,I,fun J K A=> ?_,h.tlt,h.siz,h.bud,x,⟨?_,h.inp.2⟩,j h.gro (i _ (by simp)),E,⟨?_,fun a e f=> ?_⟩,H,?_,l,⟨fun d c=> ?_,by rw[q];exact h.bnd.2⟩,⟨h.nd.1,D⟩,fun e f=>j (h.cvr e f) (i _ (J6 _ (CD.2 ⟨e,f,rfl⟩))),h.cpi⟩
 ·have:=h.tlt;rw[World.cell?_of_block (w:=w) (m X (by omega) (fun b=>by have:=r _ b;omega) (by omega))];exact h.tok J K A
 ·rw[q];exact h.inp.1.kept F fun a b=>by have:=h.inp.2 a b;exact m a (by omega) (fun b=>by have:=r _ b;omega) (by omega)
 ·unfold RS.gs;rw[k];exact h.gv.1
 ·obtain⟨d,L,P,Q⟩:=h.gv.2 a e f;exact⟨d,by unfold RS.gs;rw[k];exact L,P,j Q (i _ (by simp only[BD,CD];exact .inl (.inl (.inr ⟨e,Ct f,rfl⟩))))⟩
 ·rw[v];exact j h.oro (i _ (by simp))
 ·rcases BD.1 c with c|c
  ·exact h.bnd.1 d (Iu _ (by unfold RS.gs at c⊢;rw[k] at c;exact c))
  ·exact y d c
theorem RA.noH(d:As wb w I)(e:I.heap[wb]? =w.heap[wb]?):RA wb X cap B T c ins U G Aw [] (I.setCell ⟨wb,5,none⟩ Aw) vi V {S with here:=[]}:=by
 have g:=PH.1 h.apt;refine h.swap (by simp[World.setCell];exact d.size) (fun a b _ i=> ?_) ((h.cel.block e).set (o:=5) (by simp[Dy]) _) (fun o=>by rw[Cu,World.frozen?_of_block (w:=w) e];exact h.frz o) (World.ownsRow_nil _ _ _ _) ⟨rfl,fun a p k=>by simp at k⟩ (PH.2 ⟨fun t _ a f=>(by cases f),?_⟩) (fun s l=>by cases l) ⟨fun q r m n j=>by simp at j,by simp⟩ rfl rfl rfl h.use
 ·rw[Below.heap_setCell _ _ _ _ b];exact d.block a i b
 ·exact g.2.sublist (by simp only[NR,IY];exact(List.sublist_append_left _ _).append (List.Sublist.refl _))
theorem RA.addH{i:GC}{x:Int}(p:Ay w I)(m:I.ownsRow w.heap.size 3 1 i.vv 1 [Aa x])(v:I.grownBy K O.ownBlock)(C:K.ownsRow (wb+1) 207 6 Z (H.length+1) (H.flatMap GC.row++i.row))(z: ∀a,Z.ownBlock=some a->O.ownBlock=some a\/I.heap.size<=a)(R:VB x)(M:G1 (H++[i])):RA wb X cap B T c ins U G Z (H++[i]) (K.setCell ⟨wb,5,none⟩ Z) vi V {S with here:=S.here++[(i.name,x)]}:=by
 have J:=h.lt;have q:=h.low;have E:=p.size;have s:=PH.1 h.apt;have Q:O.ownBlock≠some wb:=fun b=>by have:=(q O (by unfold BO;simp) _ b).1;omega
 have y: ∀a,a≠wb->O.ownBlock≠some a->a<I.heap.size->(K.setCell ⟨wb,5,none⟩ Z).heap[a]? =I.heap[a]? :=fun a j t u=>by rw[Below.heap_setCell _ _ _ _ j];exact v.block a u (fun b=>t b.symm)
 have D:K.heap[wb]? =w.heap[wb]? :=(v.block wb (by omega) (fun b=>Q b.symm)).trans (p.block wb J);have l:=fun a b=>m.lt a b;have P:(K.setCell ⟨wb,5,none⟩ Z).heap.size=K.heap.size:=by simp[World.setCell]
 have ad:H.length=S.here.length:=by rw[h.hv.1];unfold RS.hs;rw[BF]
 refine h.swap (by rw[P];exact AT E v.size) (fun a j t u=>(y a j t (by omega)).trans (p.block a u)) ((h.cel.block D).set (o:=5) (by simp[Dy]) _) (fun o=>by rw[Cu,World.frozen?_of_block (w:=w) D];exact h.frz o) ?_ ⟨?_,fun a e d=> ?_⟩ ?_ (fun e d Y m=> ?_) M rfl rfl rfl h.use
 ·rw[AG,Ph];simp only[Rn,List.flatMap_nil,IY];exact Cq C fun a b=>Below.heap_setCell _ _ _ _ (by have:=(C.lt a b).1;show a≠wb;omega)
 ·unfold RS.hs;simp;omega
 ·have W:RS.hs {S with here:=S.here++[(i.name,x)]}=S.hs++[(i.name,[x])]:=by unfold RS.hs;simp
  have N:S.hs.length=H.length:=h.hv.1.symm;rw[W];by_cases b:a<H.length
  ·rw[CR b] at d;obtain⟨aa,ab,ac,r⟩:=h.hv.2 a e d;have L:e.vv∈[U,V]++G.map GC.vv++H.map GC.vv++G.map GC.cv:=by simp only[BD,CD];exact .inl (.inr ⟨e,Ct d,rfl⟩)
   exact⟨aa,by rw[CR (by omega)];exact ab,ac,Cq r fun g k=>(y g (by have:=(r.lt g k).1;omega) (fun f=>s.1 _ L g f k) (by have:=(r.lt g k).2;omega)).trans (p.block g (r.lt g k).2)⟩
  ·have F:=(BH.1 d).1;simp at F;have f:a=H.length:=by omega
   subst f;rw[CS (AA _),I2] at d;cases d;refine⟨(i.name,[x]),by rw[CS (by omega),N,I2];rfl,rfl,?_⟩;refine QH (Cq m fun g k=>y g (by have:=(l g k).1;omega) (fun f=>by have:=(q O (by unfold BO;simp) _ f).2;have:=(l g k).1;omega) (l g k).2) (by omega)
 ·rw[Ab0.pairwise_iff (fun h=>KT h),Hm,Hm];have A: ∀e∈[U,V]++G.map GC.vv++H.map GC.vv++G.map GC.cv,∀a,e.ownBlock=some a->a<w.heap.size:=fun e d a b=>(q e (Sc.mem_iff.2 (F8 _ d)) a b).2;refine⟨fun e d a b f=> ?_,fun e d a b f=> ?_,s.2⟩
  ·rcases C0.1 d with rfl|d
   ·rcases z a b with j|j
    ·have:=(q O (by unfold BO;simp) _ j).2;have:=(l a f).1;omega
    ·have:=(l a f).2;omega
   ·rcases z a b with j|j
    ·exact s.1 e d a j f
    ·have:=A e d a f;omega
  ·have:=A e d a f;have:=(l a b).1;omega
 ·have n:e∈S.hs++[(i.name,[x])]:=by unfold RS.hs at d⊢;simpa using d
  rcases BD.1 n with n|n
  ·exact h.bnd.1 e (J6 _ n) Y m
  ·simp at n;subst n;simp at m;subst m;exact R
end
variable{c2:Nat}{vh2:Value}{H2:List GC}{A:World}{R D:Value}{S2:RS}
theorem Oe:(BO U O V G H).Pairwise Df↔(∀b∈[U,O]++G.map GC.vv++H.map GC.vv++G.map GC.cv,Df V b)/\([U,O]++G.map GC.vv++H.map GC.vv++G.map GC.cv).Pairwise Df:=by
 have a:(BO U O V G H).Perm (V::([U,O]++G.map GC.vv++H.map GC.vv++G.map GC.cv)):=by have:= @Ru _ V [U,O] (G.map GC.vv++H.map GC.vv++G.map GC.cv);unfold BO;simpa using this
 rw[a.pairwise_iff (fun h=>KT h),Hm]
theorem RA.leave(h:RA wb X cap B T c ins U G O H w vi V S)(n:RA wb X cap B T c2 ins U G vh2 H2 K R D S2)(p:As wb w I)(i:Kf wb G H2 V D I K)(N: ∀e∈H2,∀a,e.vv.ownBlock=some a->w.heap.size<=a)(l:As wb K A)(M:GX wb A (Dy X cap T.length U O ins R D B c {S2 with here:=S.here}))(Z: ∀o,A.frozen? (Ac wb o)=false):
 RA wb X cap B T c ins U G O H A R D {S2 with here:=S.here}/\Kf wb G H V D w A:=by
 have C:=h.low;have x:=Oe.1 h.apt;have ad:=Oe.1 n.apt;have ae:=p.size;have af:=i.fr.size;have W:=l.size
 have y: ∀a,a<w.heap.size->a≠wb->(∀e∈G,e.vv.ownBlock≠some a)->V.ownBlock≠some a->A.heap[a]? =w.heap[a]? :=fun a t j J L=>by
  rw[l.block a (by omega) j,i.fr.block a (by omega) (by
   rintro(b|⟨e,f,b⟩|b)
   ·exact j b
   ·rcases BD.1 f with f|f
    ·exact J e f b
    ·have:=N e f a b;omega
   ·exact L b),p.block a t j]
 have z: ∀(k:Nat)(g:Value),(∀q,q<G.length->k≠3+q)->k≠2->(BO U O V G H)[k]? =some g-> ∀a,g.ownBlock=some a->A.heap[a]? =w.heap[a]? :=fun k g r n d a b=>by have P:=C g (Ct d) a b;refine y a P.2 (by omega) (fun e f=> ?_) (KU h.apt n d (j:=2) rfl a b);obtain⟨q,s⟩:=Is f;exact KU h.apt (r q (BH.1 s).1) d (PI s) a b
 refine⟨n.swap W (fun a E _ F=>l.block a F E) M Z (Cq h.hro (z 1 _ (by omega) (by omega) rfl)) ⟨h.hv.1,fun k e r=> ?_⟩ (Oe.2 ⟨fun g d a b m=> ?_,x.2⟩) (fun u Y=>h.bnd.1 u (J6 _ Y)) h.nd.2 rfl rfl rfl n.use,⟨⟨?_,?_,?_,by omega,fun a t j=> ?_⟩,fun a b=> ?_⟩⟩
 ·obtain⟨u,aa,ab,ac⟩:=h.hv.2 k e r;exact⟨u,aa,ab,Cq ac (z (3+G.length+k) _ (fun q s=>by omega) (by omega) (Od r))⟩
 ·rcases i.nw a b with v|v
  ·exact x.1 g d a v m
  ·have Q:g∈BO U O V G H:=by unfold BO;simp only[BD,C0,I0,Jl] at d⊢;rcases d with(((d|d)|d)|d)|d<;>simp[d]
   have:=(C g Q a m).2;omega
 ·rw[l.os,i.fr.os,p.os]
 ·rw[l.tape,i.fr.tape,p.tape]
 ·rw[l.output,i.fr.output,p.output]
 ·exact y a t (fun b=>j (.inl b)) (fun e f b=>j (.inr (.inl ⟨e,Iu _ f,b⟩))) (fun b=>j (.inr (.inr b)))
 ·rcases i.nw a b with m|m
  ·exact .inl m
  ·exact .inr (by omega)
end
theorem Tryz.infoCell:(prog.info? 207).map (fun a=>(a.zero,a.size,a.bytes))=some (some (.agg #[.string ⟨#[]⟩,Aa 0,Aw,Aa 0,Aw,Aa 0]),6,88):=by kernel_rfl
structure AaQ(base:Nat)(w:World)(n:Nm):Prop where
 g: ∃xs,w.ownsRow base 207 6 n.gv n.E.glob.length xs
 h: ∃xs,w.ownsRow base 207 6 n.hv n.E.here.length xs
 apart: ∀b,n.gv.ownBlock=some b->n.hv.ownBlock≠some b
 last:n.E.fresh=true-> ∀gb,n.gv.ownBlock=some gb->w.cell? (Ac gb ((n.E.glob.length -1)*6+4))=some Aw
structure RD(wb X cap:Nat)(T:List Az)(C:World)(m:Option Nm)(w:World)(s:PS):Prop where
 rw:RW wb X cap T m w s
 par:As wb C w
 own: ∀n,m=some n->AaQ C.heap.size w n
 lt:wb<C.heap.size
 tlt:X<C.heap.size
section
variable{wb X cap:Nat}{T:List Az}{m:Option Nm}{n:Nm}{w C Y:World}{s r:PS}
section
variable(h:RD wb X cap T C m w s)
include h
theorem RD.step(j:RW wb X cap T m Y r)(b:As wb w Y):RD wb X cap T C m Y r:=
 ⟨j,h.par.trans b,fun n i=>by
  have c:=h.own n i;obtain⟨l,e⟩:=c.g;obtain⟨o,k⟩:=c.h
  exact⟨⟨l,DY e b h.lt⟩,⟨o,DY k b h.lt⟩,c.apart,fun g a d=>by
   have f:=e.lt a d;have p:=h.lt;rw[b.cell (p:=Ac a ((n.E.glob.length -1)*6+4)) f.2 (by show a≠wb;omega)]
   exact c.last g a d⟩,h.lt,h.tlt⟩
theorem RD.at(a:Nat):RD wb X cap T C m w {s with next:=a}:=⟨h.rw.at a,h.par,h.own,h.lt,h.tlt⟩
theorem RD.below(a:Ay w Y):RD wb X cap T C m Y s:=h.step (h.rw.below a) (As.of_below a)
end
theorem Fw.grow{I:World}{s:Value}{b:List Sy}{g:List Value}{base k cap:Nat}(h:Fw w s b)(q:w.ownsRow base 207 6 s b.length g)(c:Sy)(c2 i j:Value)
 (r:I.ownsRow base 207 6 (Ar k (b.length+1) cap) (b.length+1) (g++[.string c.name,Aa c.kind,c2,Aa c.args,i,j])):
 Fw I (Ar k (b.length+1) cap) (b++[c]):=by
 have D:g.length=b.length*6:=q.1;refine .inr ⟨k,cap,by simp,(r.lt k rfl).2,fun l z d=> ?_⟩;have f:=fun a(e:a<(b.length+1)*6)=>r.cellAt a e;by_cases p:l<b.length
 ·rw[CR p] at d;have o: ∀a,a<b.length*6->(g++[.string c.name,Aa c.kind,c2,Aa c.args,i,j])[a]? =g[a]? :=fun a e=>CR (by omega);rcases h with⟨rfl,rfl⟩|⟨A,B,rfl,C,x⟩
  ·simp at p
  ·obtain⟨t,u,v⟩:=x l z d;have m:=fun a(e:a<b.length*6)=>q.cellAt a e;refine⟨?_,?_,?_⟩
   ·rw[f _ (by omega),o _ (by omega),<-m _ (by omega)];exact t
   ·rw[f _ (by omega),o _ (by omega),<-m _ (by omega)];exact u
   ·rw[f _ (by omega),o _ (by omega),<-m _ (by omega)];exact v
 ·rw[CS (by omega)] at d
  have y:l=b.length:=by
   cases e:l -b.length with
   |zero=>omega
   |succ E=>rw[e] at d;simp at d
  subst y;simp at d;subst d;have n: ∀a,a<6->(g++[.string c.name,Aa c.kind,c2,Aa c.args,i,j])[b.length*6+a]? =[.string c.name,Aa c.kind,c2,Aa c.args,i,j][a]? :=fun a e=>by rw[CS (by omega)];congr 1;omega
  refine⟨?_,?_,?_⟩
  ·rw[f _ (by omega)];exact n 0 (by omega)
  ·rw[f _ (by omega)];exact n 1 (by omega)
  ·rw[f _ (by omega)];exact n 3 (by omega)
variable{J:PS}
def EP(a:Af)(kind:Nat)(b:Option Addr)(d c args:Nat):Value:=.agg #[.string a,Aa kind,.slice b d c,Aa args,Aw,Aa 0]
theorem Ee(w:World)(o:Obj):Ay w (w.alloc o):=AP
theorem AbU(h:RW wb X cap T none w s)(d:Int)(b:Bool)(e:Af)(kind:Nat)(f:Option Addr)(i g args:Nat):
 Ah 125 #[Al wb,Aa d,.bool b,EP e kind f i g args] w fun a Y=>a=.returned A6/\Ay w Y:=by
 have c:=h.mode_;have j:=h.lt;have k:=h.tlt;simp only[CU] at c;unfold EP;go_enter func125,ntmps125;go_wp2
 (try simp only[Exit.inBlock,Exit.then])
 refine bodyPost_ret (results_none rfl _ _ _) rfl ?_;exact⟨rfl,AP⟩
theorem AbQ(h:RW wb X cap T (some n) w s)(j:s.code≠0)(d:Int)(b:Bool)(e:Af)(kind:Nat)(f:Option Addr)(i g args:Nat):
 Ah 125 #[Al wb,Aa d,.bool b,EP e kind f i g args] w fun a Y=>a=.returned A6/\Ay w Y:=by
 have c:=h.mode_;have l:=h.lt;have m:=h.tlt;have k:=h.fault;have o:((s.code:Int) !=0)=true:=by simp;omega
 simp only[CU] at c;unfold EP;go_enter func125,ntmps125;go_wp2
 (try simp only[Exit.inBlock,Exit.then])
 refine bodyPost_ret (results_none rfl _ _ _) rfl ?_;exact⟨rfl,AP⟩
theorem AbR(h:RW wb X cap T (some n) w s)(t:s.code=0)(o:An T J)(m:Bool)(B:Af)(kind:Nat)(C:Option Addr)(E D args:Nat)
 (i:(A9 (n.E.row m) (Ad T J).text).isSome=true):
 Ah 125 #[Al wb,Aa J.next,.bool m,EP B kind C E D args] w fun d Y=>d=.returned A6/\RW wb X cap T (some n) Y (stop T 6 (Ad T J).pos)/\As wb w Y:=by
 have a:=h.env n rfl;have A:=h.mode_;have L:=h.lt;have O:=h.tlt;have x:=h.fault;have N:=h.toks;have M:=h.size;have G:=a.gcell;have H:=a.hcell;have F:(J.next:Int)<T.length:=by unfold An at o;omega
 rw[t] at x;simp only[CU] at A;have v:=QZ h o;have l:=fun c(f:Ay w c)=>H8 ((h.at J.next).below f) (s:={s with next:=J.next}) o 6 J.next (fun _=>rfl);have r:AI T 6 {s with next:=J.next}=stop T 6 (Ad T J).pos:=by simp[AI,stop,t,Ad]
 rw[r] at l;clear r;have u:(T.getD J.next default).text=(Ad T J).text:=rfl;rw[u] at v;clear u;generalize(Ad T J).text=j at*;generalize stop T 6 (Ad T J).pos=P at*;unfold EP;cases m with
 |true=>
  obtain⟨g,b⟩:=KN.1 i;have hF:=fun c(f:Ay w c)=>GV ((h.below f).env n rfl).h a.hlen j;have q:=Oh b;have y:g<n.E.here.length:=q;have z:=a.hlen;rw[show A9 n.E.here j=some g from b] at hF;simp only[Es] at hF;clear i b a;go_enter func125,ntmps125;go_wp2_with(first|(go_at_call 152;refine(hF _ (Ee _ _)).mono ?_;rintro d I⟨rfl,e⟩;obtain rfl:=e.symm;clear e)|(go_at_call 98;refine(l _ (Ee _ _)).mono ?_;rintro d K⟨rfl,k,p⟩))
  (try simp only[Exit.inBlock,Exit.then])
  refine bodyPost_ret (results_none rfl _ _ _) rfl ?_;exact⟨rfl,k,(As.of_below (Ee _ _)).trans p⟩
 |false=>
  obtain⟨g,b⟩:=KN.1 i;have hF:=fun c(f:Ay w c)=>GV ((h.below f).env n rfl).g a.glen j;have q:=Oh b;have y:g<n.E.glob.length:=q;have z:=a.glen;rw[show A9 n.E.glob j=some g from b] at hF;simp only[Es] at hF;clear i b a;go_enter func125,ntmps125;go_wp2_with(first|(go_at_call 152;refine(hF _ (Ee _ _)).mono ?_;rintro d I⟨rfl,e⟩;obtain rfl:=e.symm;clear e)|(go_at_call 98;refine(l _ (Ee _ _)).mono ?_;rintro d K⟨rfl,k,p⟩))
  (try simp only[Exit.inBlock,Exit.then])
  refine bodyPost_ret (results_none rfl _ _ _) rfl ?_;exact⟨rfl,k,(As.of_below (Ee _ _)).trans p⟩
end
