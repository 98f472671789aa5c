/- The program's look at names: expressions. Arguments, an inde -/
import Derived.Test.YtklobognaldjpaaGreatCOk2
set_option maxRecDepth 1000000
set_option maxHeartbeats 2000000
namespace Go.Proofs.YtklobognaldjpaaGreat
open Go.Proofs.Tryz
open Go.RowKit
section
variable{Z J N D:Nat}{K:Option Nat}{w:World}{c:Nat×Nat}{L:Ds}{E:Ao}{Q:AW}
section
variable{c:Nat×Nat}(I:c.1=0->C8 L E)
include I
theorem Nw(b:Af)(p k:Nat):AF (if(L.find b).1=k+1 then none else some (6,p)) c=AF (Dz E b p k) c:=by
 by_cases h:c.1=0
 ·unfold Dz;have:=(I h).find_kind b k;by_cases a:(L.find b).1=k+1
  ·rw[Ag a,Ag (this.1 a)]
  ·rw[Ae a,Ae (fun d=>a (this.2 d))]
 ·unfold AF;rw[Ae h,Ae h]
theorem AiJ{a:Af}(d:a.toList≠[])(p:Nat):AF (if(a.toList==L.res.toList)=true then none else(if(L.find a).1=0+1 then none else some (6,p))) c=AF (GD E a p) c:=by
 by_cases h:c.1=0
 ·by_cases b:(a.toList==L.res.toList)=true
  ·rw[Ag b,(I h).res_yes d b]
  ·rw[Ae b,(I h).res_no (by simpa using b),Nw I]
 ·unfold AF;rw[Ae h,Ae h]
theorem AiI(a:Af)(p k many:Nat)(i:k=2\/k=3):
 AF (if(L.find a).2=many then none else some (7,p)) (AF (Dz E a p k) c)=AF (GJ E a p k many) c:=by
 by_cases h:c.1=0
 ·unfold Dz GJ;by_cases b:(E.kindIx a).1=k
  ·rw[Ag b,Ag b,Gu,(I h).find_args a k i b];by_cases d:E.args a=many
   ·rw[Ag d,Ag d.symm]
   ·rw[Ae d,Ae (fun g=>d g.symm)]
  ·rw[Ae b,Ae b];have e:AF (some (6,p)) c=(6,p):=by simp[AF,h]
   rw[e];unfold AF;rw[Ae (by simp)]
 ·have e: ∀f,AF f c=c:=fun f=>by unfold AF;rw[Ae h]
  rw[e,e,e]
theorem Jn(a:Option (Nat×Nat)):(AF a c).1=0->C8 L E:=fun h=>by
 refine I ?_;unfold AF at h;split at h
 ·assumption
 ·exact h
end
def LX(Z J N D:Nat)(K:Option Nat)(L:Ds)(E:Ao)(e:Ex):Prop:=
 ∀(Q:AW)(w:World)(v:Value)(c:Nat×Nat),PL Z J N D K w c L->(c.1=0->C8 L E)->Ca Q w v e->(∀a,Q a->a≠Z)->BX e->
  Ah 170 #[Al Z,v] w (DP Z J N D K L (AF (AV E e) c) w)
theorem FZ{Z:Nat}{Q:AW}{w c:World}(d: ∀a,Q a->a≠Z)(b:As Z w c):BR Q w c:=⟨b.size,fun a e f=>b.block a f (d a e)⟩
theorem AeH:LX Z J N D K L E .nil:=by intro Q w v c h I a d b;cases a;rw[AV,Gu];go_enter func170,ntmps170;go_wp2;go_end0;exact⟨rfl,h,As.refl _ _⟩
theorem AeI(b:Nat):LX Z J N D K L E (.num b):=by intro Q w v c h I a e d;cases a;rw[AV,Gu];go_enter func170,ntmps170;go_wp2;go_end0;exact⟨rfl,h,As.refl _ _⟩
theorem AeK(b:Af)(p:Nat):LX Z J N D K L E (.var b p):=by
 intro Q w v c h I i n d;cases i;rw[BX] at d;have l:b.size<=maxLen:=by have:=d.2;unfold maxLen;omega
 have f: ∀a,Ay w (w.alloc a):=fun a=>AP;have j: ∀a,Ah 171 #[Al Z,.agg #[.string b,Aa p],Aa 1] (w.alloc a) (DP Z J N D K L (AF (AV E (.var b p)) c) (w.alloc a)):=fun a=>by rw[AV,<-Nw I];exact NC (h.below (f a)) l p 0
 generalize AF (AV E (.var b p)) c=m at*;go_enter func170,ntmps170;go_wp2_with(go_at_call 171;refine(j _).mono ?_;rintro e o⟨rfl,g,k⟩);go_end0;exact⟨rfl,g,(As.of_below (f _)).trans k⟩
end
theorem Tryz.infoExpr:(prog.info? 251).map (fun a=>(a.zero,a.size,a.bytes))=some (some .nilIface,1,16):=by kernel_rfl
section
variable{U V cap:Nat}{T:List Az}{w:World}{s:PS}{d:Int}{O:AU}
theorem Ps{a:Nat}{b:List Ex}(h:Aj T Bx s=false):Bj T O a b s=(b,s):=by
 cases a with
 |zero=>rfl
 |succ a=>rw[Bj,h];rfl
theorem RG{b:Nat}{a:List Ex}(h:Aj T Bx s=true):Bj T O (b+1) a s=Bj T O b (a++[(O (Ab s)).1]) (O (Ab s)).2:=by rw[Bj,h];rfl
def AaF(U V cap:Nat)(T:List Az)(O:AU)(w:World)(s:PS)(e:Ending)(a:World):Prop:=
 ∃v b,e=.returned v/\B8 (AY w.heap.size) a v b/\FI (AY w.heap.size) a b (Ba T O s).1/\PW U V cap T a (Ba T O s).2/\As U w a
theorem UX(aj:AR T)(hF:Fk U V cap T 207 d O)(P:AM T O)(h:PW U V cap T w s)(X:An T s):
 Ah 212 #[Al U,Aa d] w fun e ax=>AaF U V cap T O w s e ax:=by
 have n:=h.lt;have aq:=h.tlt;have a7:=h.size;cases b:Aj T AJ s with
 |true=>
  have C:=EM h X AJ b;have r:Hid (Ba T O s=([],Ab s)):=by show _=_;unfold Ba;rw[b];rfl
  go_enter func212,ntmps212;go_wp2_with(go_at_call 165;refine C.mono ?_;rintro e ay⟨rfl,F,x⟩);go_ret;refine⟨_,[],rfl,.inl ⟨rfl,rfl⟩,?_⟩;rw[r.out];exact⟨⟨rfl,fun z v e i=>by simp at i⟩,F,x⟩
 |false=>
  obtain⟨aw,ak,ar,au,av⟩:=info_parts Tryz.infoExpr;have C:=D2 h X AJ b;have r:Hid (Ba T O s=((Bj T O T.length [(O s).1] (O s).2).1,Am T AJ (Bj T O T.length [(O s).1] (O s).2).2)):=by show _=_;unfold Ba;rw[b];rfl
  have an:=P s X;clear b;go_enter func212,ntmps212;go_wp2_with(first|(go_at_call 165;refine C.mono ?_;rintro e ay⟨rfl,F,x⟩)|(go_at_call 207;refine(hF _ _ F X).mono ?_;rintro e ag⟨af,rfl,R,ah,Z⟩;have a2:=R.cells));go_loopw [5] (fun v wr=> ∃(a:PS)(c:List Value)(f:List Ex)(q:Nat),wr.ownsRow w.heap.size 251 1 v c.length c/\FI (Ed w.heap.size v) wr c f/\PW U V cap T wr a/\As U w wr/\An T a/\T.length<=a.next+q/\f.length<=a.next+1/\Hid (Bj T O q f a=Bj T O T.length [(O s).1] (O s).2)) (fun _ wr=>T.length -Kp U wr)
  case atStart=>
   have a5:=x.size;have a6:=Z.size;refine⟨(O s).2,[af],[(O s).1],T.length,World.ownsRow_lit ag #[af] 1 (by omega) (by unfold maxLen;omega) rfl,⟨rfl,fun z v e i S=> ?_⟩,ah.alloc _,((x.trans Z).alloc _),an.1,by omega,by simp,rfl⟩
   have:z=0:=by
    match z,i with
    |0,_=>rfl
    |z+1,i=>simp at i
   subst this;simp at i S;subst i S;have ai:=R.weak (Q':=Ed w.heap.size (Ar ag.heap.size 1 1)) (fun N u aa=>⟨by unfold AY at u;omega,by simp[Value.ownBlock];omega⟩);exact ai.keep ⟨by simp,fun N u aa=>Below.heap_alloc _ _ _ aa⟩
  case round=>
   obtain⟨a,c,f,q,y,J,E,g,j,a4,a0,t⟩:=hrel;have ao:=Gq E;have al:=g.size;cases b:Aj T Bx a with
   |true=>
    have W:=AD aj j b Ai;have am:=P (Ab a) W;have D:=EM E j Bx b;have a1:(Ab a).next=a.next+1:=rfl
    obtain⟨A,rfl⟩: ∃A,q=A+1:=⟨q -1,by unfold An at j;omega⟩;have B:Hid (Bj T O A (f++[(O (Ab a)).1]) (O (Ab a)).2=Bj T O T.length [(O s).1] (O s).2):=by show _=_;rw[<-t.out,RG b]
    have a8:=J.1;unfold An at j;clear t b
    go_wp2_with(first
     |(go_at_call 165;refine D.mono ?_;rintro e az⟨rfl,G,l⟩)
     |(go_at_call 207;refine(hF _ _ G W).mono ?_;rintro e L⟨v4,rfl,I,H,m⟩;have a3:=I.cells;have ap:=I.one)
     |(at_builtin;refine Gw rfl _ _ 259 rfl w.heap.size 251 aw _ 1 16 underlying259 ak ar au av rfl (by decide) _ _ _ rfl ((DY (DY y l n) m n).alloc _) (Ac _ 0) 1 1 [v4] rfl rfl (cell_one_new _ _ _) ?h1 ?h63 ?hby ?hbase ?hh
       case h1=>intro a9 ad;simp at ad;subst ad;exact ap
       case h63=>unfold maxLen;omega
       case hby=>omega
       case hbase=>have:=l.size;have:=m.size;simp;omega
       intro K M ac Y ae;have o:Aside (M.ownsRow w.heap.size 251 1 K (c.length+1) (c++[v4])/\(L.alloc (.cells #[v4] 251)).grownBy M u5.ownBlock/\(K.ownBlock=u5.ownBlock\/ ∀k,K.ownBlock=some k->(L.alloc (.cells #[v4] 251)).heap.size<=k)):=⟨ac,Y,ae⟩
       clear ac Y ae))
    have ab:=y.lt;have p:=l.trans m;have Q:PW U V cap T M (O (Ab a)).2:=(H.alloc _).grown o.out.2.1 (fun k g=>(ab k g).1) n aq
    go_roundw
    case rel=>
     exact⟨(O (Ab a)).2,c++[v4],f++[(O (Ab a)).1],A,by rw[AG];exact o.out.1,FI.grow n al J y l m I _ o.out.2.1 o.out.2.2,Q,
      He ((g.trans p).alloc _) o.out.2.1 (fun k g=>(ab k g).1),am.1,by omega,by rw[AG];simp;omega,B⟩
    case measure=>
     rw[Gq Q,ao];omega
   |false=>
    have D:=D2 E j Bx b;have B:Hid (Ba T O s=(f,Am T AJ a)):=by show _=_;rw[r.out,<-t.out,Ps b]
    clear t b r;go_wp2_with(first|(go_at_call 165;refine D.mono ?_;rintro e az⟨rfl,G,l⟩)|(go_at_call 144;refine(F4 G j AJ).mono ?_;rintro e L⟨rfl,H,m⟩));go_ret;have p:=l.trans m;refine⟨_,c,rfl,QM (DY y p n),?_⟩;rw[B.out];exact⟨(J.keep (IE p n)).weak (fun N u _=>u.1),H,g.trans p⟩
theorem Ww(hF:Fk U V cap T 207 d O)(c:AM T O)(h:PW U V cap T w s)(X:An T s):
 Ah 213 #[Al U,Aa d] w fun e a=> ∃v,e=.returned v/\Ca (AY w.heap.size) a v (Cg T O s).1/\PW U V cap T a (Cg T O s).2/\As U w a:=by
 have l:=h.lt;have k:=c s X;go_enter func213,ntmps213;go_wp2_with(first|(go_at_call 207;refine(hF _ _ h X).mono ?_;rintro e n⟨m,rfl,i,f,j⟩)|(go_at_call 144;refine(F4 f k.1 Cn).mono ?_;rintro e o⟨rfl,g,b⟩));go_ret;exact⟨_,rfl,i.keep (b.keepQ l),g,j.trans b⟩
end
theorem B8.cells{Q:AW}{w:World}{v:Value}{c:List Value}(h:B8 Q w v c): ∀a,v=.agg a->False:=by intro a b;rcases h with⟨rfl,_⟩|⟨d,cap,rfl,_⟩<;>cases b
section
variable{U V cap:Nat}{T:List Az}{d:Int}{O:AU}
theorem Afb(o:AR T)(D:Fk U V cap T 207 (d+1) O)(A:AM T O)(ab:0<=d)(ac:d<=14):Fk U V cap T 231 d (FQ T O):=by
 intro w s h X;have ae:=h.lt;have af:=h.tlt;have q:=LV h X;have ag:IntKind.i64.wrap (d+1)=d+1:=by rw[IntKind.wrap_i64];omega
 have f:=(Gn o s X).1;cases j:Aj T Bl (Ap T s).2 with
 |true=>
  have u:=AD o f j Ai;have l:Hid (FQ T O s=(.call (Ap T s).1.1 (Ap T s).1.2 (Ba T O (Ab (Ap T s).2)).1,(Ba T O (Ab (Ap T s).2)).2)):=by show _=_;unfold FQ;rw[j];rfl
  generalize(Ap T s).1.1=E at*;generalize(Ap T s).1.2=F at*;generalize(Ap T s).2=H at*;go_enter func231,ntmps231;go_wp2_with(first|(go_at_call 189;refine q.mono ?_;rintro e I⟨rfl,b,c⟩;have i:=b.lt)|(go_at_call 165;refine(EM (b.alloc _) f Bl j).mono ?_;rintro e y⟨rfl,m,a⟩;obtain⟨G,q1,k⟩:=a.new i));go_region_with (go_at_call 212;refine(UX o D A (m.below (Below.refl _ _).drew) u).mono ?_;rintro e Z⟨Y,ah,rfl,C,z,t,n⟩;have L:=C.cells;obtain⟨S,W,P⟩:=((a.drewN 1).trans n).new i)
  all_goals go_wp2
  all_goals go_ret
  all_goals refine⟨_,rfl,?_⟩
  all_goals rw[l.out]
  all_goals have p:w.heap.size<=y.drew.heap.size:=AT (AT c.size (by simp)) a.size
  all_goals exact⟨.call _ _ (C.weak fun aa K _=>AT p K) z.1 (fun R v e Q M=>(z.2 R v e Q M).up p),t,((c.alloc _).trans (a.drewN 1)).trans n⟩
 |false=>
  cases k:Aj T BL (Ap T s).2 with
  |true=>
   have u:=AD o f k Ai;have l:Hid (FQ T O s=(.elem (Ap T s).1.1 (Ap T s).1.2 (Cg T O (Ab (Ap T s).2)).1,(Cg T O (Ab (Ap T s).2)).2)):=by show _=_;unfold FQ;rw[j,k];rfl
   generalize(Ap T s).1.1=E at*;generalize(Ap T s).1.2=F at*;generalize(Ap T s).2=H at*;go_enter func231,ntmps231;go_wp2_with(first|(go_at_call 189;refine q.mono ?_;rintro e I⟨rfl,b,c⟩;have i:=b.lt)|(go_at_call 165;refine(EM m f BL k).mono ?_;rintro e J⟨rfl,r,x⟩;have g:=a.trans x;obtain⟨G,q1,N⟩:=g.new i)|(go_at_call 165;refine(D2 (b.alloc _) f Bl j).mono ?_;rintro e y⟨rfl,m,a⟩;have ad:=(c.alloc _).trans a));go_region_with (go_at_call 213;refine(Ww D A (r.below (Below.refl _ _).drew) u).mono ?_;rintro e Z⟨Y,rfl,B,t,n⟩;have L:=B.cells;obtain⟨S,W,P⟩:=((g.drewN 1).trans n).new i)
   all_goals go_wp2
   all_goals go_ret
   all_goals refine⟨_,rfl,?_⟩
   all_goals rw[l.out]
   all_goals have p:w.heap.size<=J.drew.heap.size:=AT (AT c.size (by simp)) g.size
   all_goals exact⟨.elem _ _ (B.up p),t,((c.alloc _).trans (g.drewN 1)).trans n⟩
  |false=>
   have l:Hid (FQ T O s=(.var (Ap T s).1.1 (Ap T s).1.2,(Ap T s).2)):=by show _=_;unfold FQ;rw[j,k];rfl
   generalize(Ap T s).1.1=E at*;generalize(Ap T s).1.2=F at*;generalize(Ap T s).2=H at*;go_enter func231,ntmps231;go_wp2_with(first|(go_at_call 189;refine q.mono ?_;rintro e I⟨rfl,b,c⟩;have i:=b.lt)|(go_at_call 165;refine(D2 m f BL k).mono ?_;rintro e J⟨rfl,r,x⟩;have g:=a.trans x;obtain⟨G,q1,N⟩:=g.new i)|(go_at_call 165;refine(D2 (b.alloc _) f Bl j).mono ?_;rintro e y⟨rfl,m,a⟩));go_ret;refine⟨_,rfl,?_⟩;rw[l.out];exact⟨.var _ _,r,(c.alloc _).trans g⟩
variable{w:World}{s:PS}{k:Nat}
def Pf(U V cap:Nat)(T:List Az)(b:Ex×PS)(w:World)(e:Ending)(a:World):Prop:=
 ∃v,e=.returned v/\Ca (AY w.heap.size) a v b.1/\PW U V cap T a b.2/\As U w a
section
variable(h:PW U V cap T w s)(X:An T s)
include h X
theorem Acq(b:14<d):
 Ah 229 #[Al U,Aa d] w fun e f=>Pf U V cap T (Da T 0 s) w e f:=by
 go_enter func229,ntmps229;go_wp2_with(go_at_call 204;refine(Aaa h X d b).mono ?_;rintro e g⟨rfl,a,c⟩);go_ret;exact⟨_,rfl,.nil,a,c⟩
theorem Acu(l:d<=14)(a:AN T .number s=true):
 Ah 229 #[Al U,Aa d] w fun e n=>Pf U V cap T (Da T (k+1) s) w e n:=by
 have g:Hid (Da T (k+1) s=(.num (Ad T s).val,Ab s)):=by show _=_;rw[Da];simp[BV,a]
 have f:(Ad T s).kind.p=2:=by have:=P4 (T:=T) s;rw[a] at this;simpa using this
 have o:=Nx;have p:=AiP;have b:=Hz h X;rw[f] at b;clear a;go_enter func229,ntmps229;go_wp2_with(first|(go_at_call 204;refine Aq (O7 d l _ U) ?_)|(go_at_call 145;refine b.mono ?_;rintro e q⟨rfl,c⟩;have i:=h.below c)|(go_at_call 203;refine(Ui i X 2 f).mono ?_;rintro e r⟨rfl,j,m⟩));go_ret;refine⟨_,rfl,?_⟩;rw[g.out];exact⟨.num _,j,(As.of_below c).trans m⟩
theorem Acs(u:d<=14)(l:AN T .number s=false)(b:AN T .name s=true)
 (r:Fk U V cap T 231 d (FQ T (EA T (Da T k)))):
 Ah 229 #[Al U,Aa d] w fun e x=>Pf U V cap T (Da T (k+1) s) w e x:=by
 have n:Hid (Da T (k+1) s=FQ T (EA T (Da T k)) s):=by show _=_;rw[Da];simp[l,b]
 have j:(Ad T s).kind.p=1:=by have:=MW (T:=T) s;rw[b] at this;simpa using this
 have y:=Nx;have f:=Hz h X;have g:=fun m(t:Ay w m)=>Hz (h.below t) X;rw[j] at f g;clear l b j;go_enter func229,ntmps229;go_wp2_with(first|(go_at_call 204;refine Aq (O7 d u _ U) ?_)|(go_at_call 145;refine(g _ a).mono ?_;rintro e A⟨rfl,i⟩;have o:=(h.below a).below i)|(go_at_call 145;refine f.mono ?_;rintro e m⟨rfl,a⟩)|(go_at_call 231;refine(r _ _ o X).mono ?_;rintro e B⟨z,rfl,q,p,v⟩));go_ret;refine⟨_,rfl,?_⟩;rw[n.out];have c:=(As.of_below (pb:=U) a).trans (As.of_below i);exact⟨q.up c.size,p,c.trans v⟩
end
theorem Acv(O:AR T)(h:PW U V cap T w s)(X:An T s)(af:0<=d)(S:d<=14)(C:AN T .number s=false)(B:AN T .name s=false)
 (P:Fk U V cap T 207 (d+1) (EA T (Da T k)))(M:AM T (EA T (Da T k)))(hF:Fk U V cap T 229 (d+1) (Da T k)):
 Ah 229 #[Al U,Aa d] w fun e aa=>Pf U V cap T (Da T (k+1) s) w e aa:=by
 obtain⟨u,p⟩: ∃u,Da T (k+1) s=u:=⟨_,rfl⟩;rw[p];rw[Da,Ae (by rw[C];simp),Ae (by rw[B];simp)] at p;have n:Hid (_=u):=p;have ah:((Ad T s).kind.p==2)=false:=by rw[P4];exact C
 have ag:((Ad T s).kind.p==1)=false:=by rw[MW];exact B
 have ae:=Nx;have H:=Hz h X;have I:=fun L(Q:Ay w L)=>Hz (h.below Q) X;have z:=fun G(W:G≠[]) Z=>AD O X (f:=bs G) Z (I6 _ W);clear C B p;go_enter func229,ntmps229;go_upto_region 7 with(first|(go_at_call 204;refine Aq (O7 d S _ U) ?_)|(go_at_call 145;refine(I _ q).mono ?_;rintro e ai⟨rfl,y⟩)|(go_at_call 145;refine H.mono ?_;rintro e L⟨rfl,q⟩));have v:=(h.below q).below y;have D:=(As.of_below (pb:=U) q).trans (As.of_below y);clear H I q y;cases b:Aj T Bl s with
 |true=>
  have j:=z _ (by simp) b;have Y:=M (Ab s) j;go_wp2_with(first|(go_at_call 207;refine(P _ _ m j).mono ?_;rintro e F⟨v6,rfl,f,c,g⟩)|(go_at_call 144;refine(F4 c Y.1 AJ).mono ?_;rintro e aj⟨rfl,N,J⟩)|(go_at_call 165;refine(EM v X Bl b).mono ?_;rintro e ab⟨rfl,m,r⟩));go_ret;refine⟨_,rfl,?_⟩;rw[<-n.out,Ag b];have a:=D.trans r;exact⟨(f.up a.size).keep (J.keepQ h.lt),N,(a.trans g).trans J⟩
 |false=>
  go_upto_region 11 with(go_at_call 165;refine(D2 v X Bl b).mono ?_;rintro e ab⟨rfl,m,r⟩);have E:=D.trans r;clear v D r;cases i:Aj T FA s with
  |true=>
   have j:=z _ (by simp) i;go_wp2_with(first|(go_at_call 229;refine(hF _ _ o j).mono ?_;rintro e F⟨v6,rfl,f,c,g⟩;have R:=f.cells)|(go_at_call 165;refine(EM m X FA i).mono ?_;rintro e ac⟨rfl,o,t⟩));go_ret;refine⟨_,rfl,?_⟩;rw[<-n.out,Ae (by simp[b]),Ag i];have a:=E.trans t;exact⟨.un _ (f.up a.size),c,a.trans g⟩
  |false=>
   go_upto_region 13 with(go_at_call 165;refine(D2 m X FA i).mono ?_;rintro e ac⟨rfl,o,t⟩);have K:=E.trans t;clear m E t;cases l:Aj T GP s with
   |true=>
    have j:=z _ (by simp) l;go_wp2_with(first|(go_at_call 229;refine(hF _ _ x j).mono ?_;rintro e F⟨v6,rfl,f,c,g⟩;have R:=f.cells)|(go_at_call 165;refine(EM o X GP l).mono ?_;rintro e ad⟨rfl,x,A⟩));go_ret;refine⟨_,rfl,?_⟩;rw[<-n.out,Ae (by simp[b]),Ae (by simp[i]),Ag l];have a:=K.trans A;exact⟨.un _ (f.up a.size),c,a.trans g⟩
   |false=>
    go_wp2_with(first|(go_at_call 146;refine(MI x X 4).mono ?_;rintro e F⟨rfl,c,g⟩)|(go_at_call 165;refine(D2 o X GP l).mono ?_;rintro e ad⟨rfl,x,A⟩));go_ret;refine⟨_,rfl,?_⟩;rw[<-n.out,Ae (by simp[b]),Ae (by simp[i]),Ae (by simp[l])];exact⟨.nil,c,(K.trans A).trans g⟩
theorem VR(a:AR T): ∀(k:Nat)(d:Int),d+k=15->0<=d->Fk U V cap T 229 d (Da T k)
 |0,d,m,_=>fun _ _ h X=>Acq h X (by omega)
 |k+1,d,m,c=>fun w s h X=>by
  have j:=VR a k (d+1) (by omega) (by omega);have e:=Nf a k;have g:=VO a j e;have f:=IK a e;have l:=Afb a g f c (by omega);cases b:AN T .number s with
  |true=>exact Acu h X (by omega) b
  |false=>
   cases i:AN T .name s with
   |true=>exact Acs h X (by omega) b i l
   |false=>exact Acv a h X c (by omega) b i g f j
theorem Acn(a:AR T)(k:Nat)(d:Int)(c:d+k=15)(b:0<=d):Fk U V cap T 207 d (EQ T k):=
 VO a (VR a k d c b) (Nf a k)
end
inductive Dd(Q:AW)(w:World):Value->St->Prop
 |nil:Dd Q w .nilIface .nil
 |assign (n:Af) (p:Nat) {ve:Value} {e:Ex}:Ca Q w ve e->Dd Q w (.iface 253 (.agg #[.string n,Aa p,ve])) (.assign n p e)
 |put (n:Af) (p:Nat) {vi ve:Value} {i e:Ex}:Ca Q w vi i->Ca Q w ve e->Dd Q w (.iface 257 (.agg #[.string n,Aa p,vi,ve])) (.put n p i e)
 |proc (n:Af) (p:Nat) {va:Value} {vs:List Value} {args:List Ex}:B8 Q w va vs->FI Q w vs args->Dd Q w (.iface 261 (.agg #[.string n,Aa p,va])) (.proc n p args)
 |ite {vc vt vf:Value} {c:Ex} {t f:St}:Ca Q w vc c->Dd Q w vt t->Dd Q w vf f->Dd Q w (.iface 264 (.agg #[vc,vt,vf])) (.ite c t f)
 |loop {vc vb:Value} {c:Ex} {b:St}:Ca Q w vc c->Dd Q w vb b->Dd Q w (.iface 267 (.agg #[vc,vb])) (.loop c b)
 |block {va:Value} {vs:List Value} {l:List St}:B8 Q w va vs->vs.length=l.length->(∀(j:Nat) v e,vs[j]? =some v->l[j]? =some e->Dd Q w v e)->Dd Q w (.iface 248 (.agg #[va])) (.block l)
 |write {ve:Value} {e:Ex}:Ca Q w ve e->Dd Q w (.iface 270 (.agg #[ve])) (.write e)
 |read (n:Af) (p:Nat):Dd Q w (.iface 271 (.agg #[.string n,Aa p])) (.read n p)
theorem Dd.keep{Q:AW}{w g:World}{v:Value}{e:St}(h:Dd Q w v e)(a:BR Q w g):Dd Q g v e:=by
 induction h with
 |nil=>exact .nil
 |assign b p h=>exact .assign b p (h.keep a)
 |put b p c d=>exact .put b p (c.keep a) (d.keep a)
 |proc b p c d=>exact .proc b p (c.keep a) (d.keep a)
 |ite h _ _ k l=>exact .ite (h.keep a) k l
 |loop h _ f=>exact .loop (h.keep a) f
 |block j i _ f=>exact .block (j.keep a) i f
 |write h=>exact .write (h.keep a)
 |read b p=>exact .read b p
theorem Dd.weak{Q Q':AW}{w:World}{v:Value}{e:St}(h:Dd Q w v e)(a: ∀c,Q c->c<w.heap.size->Q' c):Dd Q' w v e:=by
 induction h with
 |nil=>exact .nil
 |assign b p h=>exact .assign b p (h.weak a)
 |put b p d f=>exact .put b p (d.weak a) (f.weak a)
 |proc b p d f=>exact .proc b p (d.weak a) (f.weak a)
 |ite h _ _ k l=>exact .ite (h.weak a) k l
 |loop h _ g=>exact .loop (h.weak a) g
 |block j i _ g=>exact .block (j.weak a) i g
 |write h=>exact .write (h.weak a)
 |read b p=>exact .read b p
theorem Dd.up{a b:Nat}{w:World}{v:Value}{e:St}(h:Dd (AY b) w v e)(f:a<=b):Dd (AY a) w v e:=h.weak fun c d _=>by unfold AY at*;omega
section
variable{Q:AW}{w:World}{v:Value}{e:St}(h:Dd Q w v e)
include h
theorem Dd.cells: ∀a,v=.agg a->False:=by cases h<;>(intro a b;cases b)
theorem Dd.one:v.oneCell'=true:=by cases h<;>rfl
end
def Po(U V cap:Nat)(T:List Az)(b:St×PS)(w:World)(e:Ending)(a:World):Prop:=
 ∃v,e=.returned v/\Dd (AY w.heap.size) a v b.1/\PW U V cap T a b.2/\As U w a
def KR(U V cap:Nat)(T:List Az)(a:Nat)(d:Int)(O:PS->St×PS):Prop:=
 ∀w s,PW U V cap T w s->An T s->Ah a #[Al U,Aa d] w fun e b=>Po U V cap T (O s) w e b
section
variable{U V cap:Nat}{T:List Az}{d:Int}{O:AU}
theorem Afd(j:AR T)(r:Fk U V cap T 207 (d+1) O)(z:AM T O)(ao:0<=d)(ap:d<=14):KR U V cap T 205 d (FR T O):=by
 intro w s h X;have ah:=h.lt;have aq:=h.tlt;have A:=LV h X;have ar:IntKind.i64.wrap (d+1)=d+1:=by rw[IntKind.wrap_i64];omega
 have a:=(Gn j s X).1;cases k:Aj T Bl (Ap T s).2 with
 |true=>
  have t:=AD j a k Ai;have o:Hid (FR T O s=(.proc (Ap T s).1.1 (Ap T s).1.2 (Ba T O (Ab (Ap T s).2)).1,(Ba T O (Ab (Ap T s).2)).2)):=by show _=_;unfold FR;rw[k];rfl
  generalize(Ap T s).1.1=P at*;generalize(Ap T s).1.2=Q at*;generalize(Ap T s).2=y at*;go_enter func205,ntmps205;go_wp2_with(first|(go_at_call 189;refine A.mono ?_;rintro e Y⟨rfl,f,b⟩;have i:=f.lt)|(go_at_call 165;refine(EM (f.alloc _) a Bl k).mono ?_;rintro e I⟨rfl,p,g⟩;obtain⟨R,q1,n⟩:=g.new i));go_region_with (go_at_call 212;refine(UX j r z (p.below (Below.refl _ _).drew) t).mono ?_;rintro e al⟨aj,av,rfl,L,ab,C,v⟩;have ae:=L.cells;obtain⟨S,W,N⟩:=((g.drewN 1).trans v).new i)
  all_goals go_wp2
  all_goals go_ret
  all_goals refine⟨_,rfl,?_⟩
  all_goals rw[o.out]
  all_goals have m:w.heap.size<=I.drew.heap.size:=AT (AT b.size (by simp)) g.size
  all_goals exact⟨.proc _ _ (L.weak fun aa F _=>AT m F) (ab.weak fun aa F _=>AT m F),C,((b.alloc _).trans (g.drewN 1)).trans v⟩
 |false=>
  cases n:Aj T BL (Ap T s).2 with
  |true=>
   have t:=AD j a n Ai;have o:Hid (FR T O s=(.put (Ap T s).1.1 (Ap T s).1.2 (Cg T O (Ab (Ap T s).2)).1 (O (Am T BK (Cg T O (Ab (Ap T s).2)).2)).1,(O (Am T BK (Cg T O (Ab (Ap T s).2)).2)).2)):=by show _=_;unfold FR;rw[k,n];rfl
   have M:=(Kj j z (Ab (Ap T s).2) t).1;have G:=(Ch j (f:=BK) Ai M).1;have ac:=fun w(ad:PW U V cap T w (Ab (Ap T s).2))=>Ww r z ad t;generalize(Ap T s).1.1=P at*;generalize(Ap T s).1.2=Q at*;generalize(Ap T s).2=y at*;generalize(Cg T O (Ab y)).1=an at*;generalize(Cg T O (Ab y)).2=au at*;go_enter func205,ntmps205;go_wp2_with(first|(go_at_call 189;refine A.mono ?_;rintro e Y⟨rfl,f,b⟩;have i:=f.lt)|(go_at_call 165;refine(EM p a BL n).mono ?_;rintro e Z⟨rfl,B,H⟩;have u:=g.trans H)|(go_at_call 165;refine(D2 (f.alloc _) a Bl k).mono ?_;rintro e I⟨rfl,p,g⟩)|(go_at_call 213;refine(ac _ B).mono ?_;rintro e al⟨aj,rfl,K,C,v⟩;have ae:=K.cells)|(go_at_call 144;refine(F4 C M BK).mono ?_;rintro e J⟨rfl,D,x⟩;have c:=(u.trans v).trans x;obtain⟨R,q1,ai⟩:=c.new i));go_region_with (go_at_call 207;refine(r _ _ (D.below (Below.refl _ _).drew) G).mono ?_;rintro e am⟨ak,rfl,q,E,l⟩;have af:=q.cells;obtain⟨S,W,N⟩:=((c.drewN 1).trans l).new i)
   all_goals go_wp2
   all_goals go_ret
   all_goals refine⟨_,rfl,?_⟩
   all_goals rw[o.out]
   all_goals have ag:w.heap.size<=Z.heap.size:=AT (AT b.size (by simp)) u.size
   all_goals have m:w.heap.size<=J.drew.heap.size:=AT (AT b.size (by simp)) c.size
   all_goals exact⟨.put _ _ ((K.up ag).keep (((x.drewN 1).trans l).keepQ ah)) (q.up m),E,((b.alloc _).trans (c.drewN 1)).trans l⟩
  |false=>
   have o:Hid (FR T O s=(.assign (Ap T s).1.1 (Ap T s).1.2 (O (Am T BK (Ap T s).2)).1,(O (Am T BK (Ap T s).2)).2)):=by show _=_;unfold FR;rw[k,n];rfl
   have G:=(Ch j (f:=BK) Ai a).1;generalize(Ap T s).1.1=P at*;generalize(Ap T s).1.2=Q at*;generalize(Ap T s).2=y at*;go_enter func205,ntmps205;go_wp2_with(first|(go_at_call 189;refine A.mono ?_;rintro e Y⟨rfl,f,b⟩;have i:=f.lt)|(go_at_call 165;refine(D2 p a BL n).mono ?_;rintro e Z⟨rfl,B,H⟩;have u:=g.trans H)|(go_at_call 165;refine(D2 (f.alloc _) a Bl k).mono ?_;rintro e I⟨rfl,p,g⟩)|(go_at_call 144;refine(F4 B a BK).mono ?_;rintro e J⟨rfl,D,x⟩;have c:=u.trans x;obtain⟨R,q1,ai⟩:=c.new i));go_region_with (go_at_call 207;refine(r _ _ (D.below (Below.refl _ _).drew) G).mono ?_;rintro e am⟨ak,rfl,q,E,l⟩;have af:=q.cells;obtain⟨S,W,N⟩:=((c.drewN 1).trans l).new i)
   all_goals go_wp2
   all_goals go_ret
   all_goals refine⟨_,rfl,?_⟩
   all_goals rw[o.out]
   all_goals have m:w.heap.size<=J.drew.heap.size:=AT (AT b.size (by simp)) c.size
   all_goals exact⟨.assign _ _ (q.up m),E,((b.alloc _).trans (c.drewN 1)).trans l⟩
end
theorem Tryz.infoStmt:(prog.info? 225).map (fun a=>(a.zero,a.size,a.bytes))=some (some .nilIface,1,16):=by kernel_rfl
theorem Cf{v:Value}(h:v.oneCell'=true): ∀(a:Addr)(b:Mode)(w:World),(store a v b).run prog w=stored prog w a v b:=fun a b w=>run_store _ w a v b h
theorem BR.refl(Q:AW)(w:World):BR Q w w:=⟨AA _,fun _ _ _=>rfl⟩
theorem BR.trans{Q:AW}{a b c:World}(h:BR Q a b)(k:BR Q b c):BR Q a c:=⟨AT h.1 k.1,fun f d e=>(k.2 f d (CF e h.1)).trans (h.2 f d e)⟩
theorem BR.of_par{Q:AW}{U:Nat}{b c:World}(h:As U b c)(f: ∀a,Q a->a≠U):BR Q b c:=⟨h.size,fun a d e=>h.block a e (f a d)⟩
theorem BR.setCell{Q:AW}{b w:World}(h:BR Q b w)(p:Addr)(v:Value)(d: ∀a,Q a->a≠p.block):BR Q b (w.setCell p v):=
 h.trans ⟨by simp[World.setCell],fun a c _=>Below.heap_setCell _ _ _ _ (d a c)⟩
def FG(c b:Nat):Nat->Prop:=fun a=>c<=a/\a≠b
theorem YF{U a:Nat}{w b:World}{a0 g a2 v:Value}(e:a≠U)(f:w.cell? (Ac a 0)=some a0)(h:w.cell? (Ac a 1)=some g)(i:w.cell? (Ac a 2)=some a2)(j: ∀o,w.frozen? (Ac a o)=false)
 (c:As U (w.setCell (Ac a 1) v) b):b.cell? (Ac a 0)=some a0/\b.cell? (Ac a 1)=some v/\b.cell? (Ac a 2)=some a2/\(∀o,b.frozen? (Ac a o)=false):=by
 have d:a<(w.setCell (Ac a 1) v).heap.size:=by simp[World.setCell];exact De f
 refine⟨?_,?_,?_,fun o=> ?_⟩
 ·rw[c.cell (p:=Ac a 0) d e,Bh _ _ _ _ (by simp)];exact f
 ·rw[c.cell (p:=Ac a 1) d e];exact DW _ _ _ h
 ·rw[c.cell (p:=Ac a 2) d e,Bh _ _ _ _ (by simp)];exact i
 ·rw[c.frozen (p:=Ac a o) d e,Cu];exact j o
section
variable{U V cap:Nat}{T:List Az}{d:Int}{O:AU}{Y:PS->St×PS}
theorem Abv(ad:AR T)(aj:Fk U V cap T 207 (d+1) O)(af:AM T O)(ab:KR U V cap T 191 (d+1) Y)(ag:AM T Y)(az:0<=d)(a0:d<=14):KR U V cap T 206 d (Dk T O Y):=by
 intro w s h X;have a1:=h.lt;have a3:=h.tlt;have H:=(af s X).1;have Z:=(Ch ad (f:=Bu) Ai H).1;have I:=(ag _ Z).1;have ac:=fun w(ah:PW U V cap T w (Am T Bu (O s).2))=>ab w _ ah Z;have aa:=aj w s h X;cases A:Aj T E3 (Y (Am T Bu (O s).2)).2 with
 |true=>
  have am:=AD ad I A Ai;have G:Hid (Dk T O Y s=(.ite (O s).1 (Y (Am T Bu (O s).2)).1 (Y (Ab (Y (Am T Bu (O s).2)).2)).1,(Y (Ab (Y (Am T Bu (O s).2)).2)).2)):=by show _=_;unfold Dk;rw[A];rfl
  generalize Y (Am T Bu (O s).2)=ax at*;generalize O s=aw at*;go_enter func206,ntmps206
  go_wp2_with(first
   |(go_at_call 207;refine aa.mono ?_;rintro e a⟨v1,rfl,l,i,x⟩;have ak:=l.cells;have ao:=Cf l.one;have N:=i.lt)
   |(go_at_call 144;refine(F4 (i.alloc _) H Bu).mono ?_;rintro e R⟨rfl,J,y⟩)
   |(go_at_call 191;refine(ab _ _ L am).mono ?_;rintro e g⟨E,rfl,M,ai,q⟩;have ay:=M.cells;have a2:=Cf M.one
     have a5:g.cell? (Ac a.heap.size 0)=some v1:=by rw[q.cell (p:=Ac a.heap.size 0) (De S) (by show a.heap.size≠U;omega)];exact S
     have a6:g.cell? (Ac a.heap.size 1)=some k:=by rw[q.cell (p:=Ac a.heap.size 1) (De W) (by show a.heap.size≠U;omega)];exact W
     have a7:g.cell? (Ac a.heap.size 2)=some .nilIface:=by rw[q.cell (p:=Ac a.heap.size 2) (De F) (by show a.heap.size≠U;omega)];exact F
     have a8:g.frozen? (Ac a.heap.size 2)=false:=by rw[q.frozen (p:=Ac a.heap.size 2) (De F) (by show a.heap.size≠U;omega)];exact ae 2)
   |(go_at_call 191;refine(ac _ J).mono ?_;rintro e u⟨k,rfl,m,K,z⟩;have al:=m.cells;have ap:=Cf m.one;have o:=y.trans z;obtain⟨p,q1,an⟩:=o.new N)
   |(go_at_call 165;refine(EM (K.setOther (Ac a.heap.size 1) k (by show a.heap.size≠U;omega) (by show a.heap.size≠V;have:=i.tlt;omega)) I E3 A).mono ?_;rintro e C⟨rfl,L,j⟩
     obtain⟨S,W,F,ae⟩:=YF (by omega) (by rw[p];rfl) (by rw[p];rfl) (by rw[p];rfl) q1 j))
  go_ret;refine⟨_,rfl,?_⟩;rw[G.out];go_light;have aq:=x.size;have ar:a.heap.size+1<=R.heap.size:=by have:=y.size;simp at this;omega
  have au:=z.size;have a4:u.heap.size<=C.heap.size:=by have:=j.size;simp[World.setCell] at this;omega
  have r: ∀c,FG w.heap.size a.heap.size c->c≠U:=fun c n=>by have:=n.1;omega
  have v: ∀c,FG w.heap.size a.heap.size c->c≠a.heap.size:=fun c n=>n.2
  have B:BR (FG w.heap.size a.heap.size) u (g.setCell (Ac a.heap.size 2) E):=
   (((((BR.refl (FG w.heap.size a.heap.size) u).setCell (Ac a.heap.size 1) k v).trans (.of_par j r)).trans (.of_par q r)).setCell _ _ v)
  have P:BR (FG w.heap.size a.heap.size) a (g.setCell (Ac a.heap.size 2) E):=(BR.of_par (((As.refl U a).alloc _).trans o) r).trans B;have av:BR (FG w.heap.size a.heap.size) g (g.setCell (Ac a.heap.size 2) E):=(BR.refl (FG w.heap.size a.heap.size) g).setCell _ _ v;have t: ∀f,FG w.heap.size a.heap.size f->f<(g.setCell (Ac a.heap.size 2) E).heap.size->AY w.heap.size f:=fun f b _=>b.1
  refine⟨.ite (((l.weak (Q':=FG w.heap.size a.heap.size) fun f b D=>⟨b,by omega⟩).keep P).weak t)
   (((m.weak (Q':=FG w.heap.size a.heap.size) fun f b D=>⟨by unfold AY at b;omega,by unfold AY at b;omega⟩).keep B).weak t)
   (((M.weak (Q':=FG w.heap.size a.heap.size) fun f b D=>⟨by unfold AY at b;omega,by unfold AY at b;omega⟩).keep av).weak t),
   ai.setOther _ _ (by show a.heap.size≠U;omega) (by show a.heap.size≠V;have:=i.tlt;omega),?_⟩
  have Q:=((x.alloc _).trans o).setNew (p:=Ac a.heap.size 1) (by show w.heap.size<=a.heap.size;omega) k;exact((Q.trans j).trans q).setNew (by show w.heap.size<=a.heap.size;omega) _
 |false=>
  have G:Hid (Dk T O Y s=(.ite (O s).1 (Y (Am T Bu (O s).2)).1 .nil,(Y (Am T Bu (O s).2)).2)):=by show _=_;unfold Dk;rw[A];rfl
  generalize Y (Am T Bu (O s).2)=ax at*;generalize O s=aw at*;go_enter func206,ntmps206
  go_wp2_with(first
   |(go_at_call 207;refine aa.mono ?_;rintro e a⟨v1,rfl,l,i,x⟩;have ak:=l.cells;have ao:=Cf l.one;have N:=i.lt)
   |(go_at_call 144;refine(F4 (i.alloc _) H Bu).mono ?_;rintro e R⟨rfl,J,y⟩)
   |(go_at_call 191;refine(ac _ J).mono ?_;rintro e u⟨k,rfl,m,K,z⟩;have al:=m.cells;have ap:=Cf m.one;have o:=y.trans z;obtain⟨p,q1,an⟩:=o.new N)
   |(go_at_call 165;refine(D2 (K.setOther (Ac a.heap.size 1) k (by show a.heap.size≠U;omega) (by show a.heap.size≠V;have:=i.tlt;omega)) I E3 A).mono ?_;rintro e C⟨rfl,L,j⟩
     obtain⟨S,W,F,ae⟩:=YF (a0:=v1) (a2:=.nilIface) (by omega) (by rw[p];rfl) (by rw[p];rfl) (by rw[p];rfl) q1 j))
  go_ret;refine⟨_,rfl,?_⟩;rw[G.out];go_light;have aq:=x.size;have ar:a.heap.size+1<=R.heap.size:=by have:=y.size;simp at this;omega
  have au:=z.size;have r: ∀c,FG w.heap.size a.heap.size c->c≠U:=fun c n=>by have:=n.1;omega
  have v: ∀c,FG w.heap.size a.heap.size c->c≠a.heap.size:=fun c n=>n.2
  have B:BR (FG w.heap.size a.heap.size) u C:=
   (((BR.refl (FG w.heap.size a.heap.size) u).setCell (Ac a.heap.size 1) k v).trans (.of_par j r))
  have P:BR (FG w.heap.size a.heap.size) a C:=(BR.of_par (((As.refl U a).alloc _).trans o) r).trans B;have t: ∀f,FG w.heap.size a.heap.size f->f<C.heap.size->AY w.heap.size f:=fun f b _=>b.1
  refine⟨.ite (((l.weak (Q':=FG w.heap.size a.heap.size) fun f b D=>⟨b,by omega⟩).keep P).weak t)
   (((m.weak (Q':=FG w.heap.size a.heap.size) fun f b D=>⟨by unfold AY at b;omega,by unfold AY at b;omega⟩).keep B).weak t) .nil,L,?_⟩
  have Q:=((x.alloc _).trans o).setNew (p:=Ac a.heap.size 1) (by show w.heap.size<=a.heap.size;omega) k;exact Q.trans j
end
