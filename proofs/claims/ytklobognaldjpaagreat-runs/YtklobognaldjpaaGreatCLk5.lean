/- What is declared: names and items, with commas. What is decl -/
import Derived.Test.YtklobognaldjpaaGreatCDecl1
import Derived.Deep.DeepCutAuto
set_option maxRecDepth 1000000
set_option maxHeartbeats 1000000
namespace Go.Proofs.YtklobognaldjpaaGreat
open Go.Proofs.Tryz
open Go.RowKit
theorem Tryz.infoName:(prog.info? 210).map (fun a=>(a.zero,a.size,a.bytes))=some (some (.agg #[.string ByteArray.empty,Aa 0]),2,24):=by kernel_rfl
theorem Tryz.infoGlobal:(prog.info? 175).map (fun a=>(a.zero,a.size,a.bytes))=some (some .nilIface,1,16):=by kernel_rfl
section
variable{V J cap:Nat}{T:List Az}{w:World}{s:PS}
theorem Afi{a:Nat}{b:List A8}(h:Aj T Bx s=false):Bp T a b s=(b,s):=by
 cases a with
 |zero=>rfl
 |succ a=>rw[Bp,h];rfl
theorem Afh{b:Nat}{a:List A8}(h:Aj T Bx s=true):Bp T (b+1) a s=Bp T b (a++[(Ap T (Ab s)).1]) (Ap T (Ab s)).2:=by rw[Bp,h];rfl
def AaO(V J cap:Nat)(T:List Az)(a:List A8×PS)(w:World)(c:Ending)(b:World):Prop:=
 ∃v,c=.returned v/\b.ownsRow w.heap.size 210 2 v a.1.length (E4 a.1)/\PW V J cap T b a.2/\As V w b
theorem X9(u:AR T)(h:PW V J cap T w s)(E:An T s):
 Ah 190 #[Al V] w fun f ah=>AaO V J cap T (Bf T s) w f ah:=by
 have l:=h.lt;have Z:=h.tlt;have ar:=h.size;obtain⟨ae,W,ab,ac,ad⟩:=info_parts Tryz.infoName;have Q:=LV h E;have X:=Gn u s E;have C:Hid (Bf T s=Bp T T.length [((Ap T s).1.1,(Ap T s).1.2)] (Ap T s).2):=rfl;generalize(Ap T s).1.1=N at*;generalize(Ap T s).1.2=O at*;generalize(Ap T s).2=af at*;go_enter func190,ntmps190;go_wp2_with(go_at_call 189;refine Q.mono ?_;rintro f ai⟨rfl,S,H⟩);go_loopw [3] (fun v wr=> ∃(a:PS)(b:List A8)(i:Nat),wr.ownsRow w.heap.size 210 2 v b.length (E4 b)/\PW V J cap T wr a/\As V w wr/\An T a/\T.length<=a.next+i/\b.length<=a.next+1/\Hid (Bp T i b a=Bf T s)) (fun _ wr=>T.length -Kp V wr)
 case atStart=>
  have aq:=H.size;exact⟨af,[(N,O)],T.length,World.ownsRow_lit ai #[.string N,Aa O] 1 (by omega) (by unfold maxLen;omega) rfl,S.alloc _,H.alloc _,X.1,by omega,by simp,C.out.symm⟩
 case round=>
  obtain⟨a,b,i,y,t,c,k,ap,ak,j⟩:=hrel;have Y:=Gq t;have an:=c.size;have am:a.next<T.length:=k;have I:=y.lt;cases d:Aj T Bx a with
  |true=>
   have F:=AD u k d Ai;have K:=Gn u (Ab a) F;have al:(Ab a).next=a.next+1:=rfl
   have r:=EM t k Bx d;obtain⟨m,rfl⟩: ∃m,i=m+1:=⟨i -1,by omega⟩;have p:Hid (Bp T m (b++[((Ap T (Ab a)).1.1,(Ap T (Ab a)).1.2)]) (Ap T (Ab a)).2=Bf T s):=by show _=_;rw[<-j.out,Afh d]
   have R:=fun A(g:PW V J cap T A (Ab a))=>LV g F;generalize(Ap T (Ab a)).1.1=n at*;generalize(Ap T (Ab a)).1.2=o at*;generalize(Ap T (Ab a)).2=P at*;have ao:=K.2;clear j d
   go_wp2_with(first
    |(go_at_call 165;refine r.mono ?_;rintro f A⟨rfl,g,e⟩)
    |(go_at_call 189;refine(R _ g).mono ?_;rintro f aj⟨rfl,U,x⟩)
    |(at_builtin;refine Gw rfl _ _ 216 rfl w.heap.size 210 ae _ 2 24 underlying216 W ab ac ad rfl (by decide) _ _ _ rfl ((DY (DY y e l) x l).alloc _) (Ac _ 0) 1 1 [.string n,Aa o] rfl rfl (cell_two_new _ _ _ _) ?h1 ?h63 ?hby ?hbase ?hh
      case h1=>intro au M;simp at M;rcases M with rfl|rfl<;>rfl
      case h63=>unfold maxLen;omega
      case hby=>omega
      case hbase=>have:=e.size;have:=x.size;simp;omega
      intro ag B L G aa;have q:Aside (B.ownsRow w.heap.size 210 2 ag (b.length+1) (E4 b++[.string n,Aa o])/\(aj.alloc (.cells #[.string n,Aa o] 210)).grownBy B u3.ownBlock):=⟨L,G⟩
      clear L G aa))
   have D:PW V J cap T B P:=(U.alloc _).grown q.out.2 (fun z c=>(I z c).1) l Z
   go_roundw
   case rel=>
    exact⟨P,b++[(n,o)],m,by rw[AG,X5];exact q.out.1,D,
     He ((c.trans (e.trans x)).alloc _) q.out.2 (fun z c=>(I z c).1),K.1,by omega,by rw[AG];simp;omega,p⟩
   case measure=>
    rw[Gq D,Y];omega
  |false=>
   have r:=D2 t k Bx d;have p:Hid (Bf T s=(b,a)):=by show _=_;rw[<-j.out,Afi d]
   clear j d C;go_wp2_with(go_at_call 165;refine r.mono ?_;rintro f A⟨rfl,g,e⟩);go_ret;refine⟨_,rfl,?_⟩;rw[p.out];exact⟨DY y e l,g,c.trans e⟩
end
def CY(Q:AW)(w:World)(O:List Value)(b:List Gl):Prop:=O.length=b.length/\ ∀(c:Nat) v a,O[c]? =some v->b[c]? =some a->Fu Q w v a
theorem CY.keep{Q:AW}{w b:World}{O:List Value}{a:List Gl}(h:CY Q w O a)(e:BR Q w b):CY Q b O a:=⟨h.1,fun g v c f d=>(h.2 g v c f d).keep e⟩
theorem CY.weak{Q Q':AW}{w:World}{O:List Value}{b:List Gl}(h:CY Q w O b)(e: ∀a,Q a->a<w.heap.size->Q' a):CY Q' w O b:=⟨h.1,fun g v c f d=>(h.2 g v c f d).weak e⟩
theorem CY.append{Q:AW}{w:World}{O k:List Value}{e f:List Gl}(h:CY Q w O e)(i:CY Q w k f):CY Q w (O++k) (e++f):=by
 refine⟨by simp[h.1,i.1],fun j c d a b=> ?_⟩;by_cases g:j<O.length
 ·rw[CR g] at a;rw[CR (by rw[<-h.1];exact g)] at b;exact h.2 j c d a b
 ·rw[CS (by omega)] at a;rw[CS (by rw[<-h.1];omega)] at b;rw[h.1] at a;exact i.2 _ c d a b
theorem CY.one{Q:AW}{w:World}{v:Value}{c:Gl}(h:Fu Q w v c):CY Q w [v] [c]:=by
 refine⟨rfl,fun d e f a b=> ?_⟩
 match d,a,b with
 |0,a,b=>simp at a b;subst a b;exact h
 |d+1,a,_=>simp at a
theorem CY.oneCell{Q:AW}{w:World}{O:List Value}{a:List Gl}(h:CY Q w O a): ∀d∈O,d.oneCell'=true:=by intro d e;obtain⟨c,b,rfl⟩:=Rs e;exact(h.2 c _ (a[c]'(by rw[<-h.1];exact b)) (Bb b) (Bb _)).one
theorem CY.grow{V a:Nat}{c f:Value}{wr k d o:World}{p:TypeId}{C:Nat}{O l:List Value}{g i:List Gl}(z:V<a)(D:a<=wr.heap.size)
 (s:CY (Ed a c) wr O g)(y:wr.ownsRow a p 1 c C O)(j:As V wr k)(x:As V k d)(B:CY (AY k.heap.size) d l i)
 (w:d.grownBy o c.ownBlock)(A:f.ownBlock=c.ownBlock\/ ∀n,f.ownBlock=some n->d.heap.size<=n):CY (Ed a f) o (O++l) (g++i):=by
 have r:CY (Ed a c) d O g:=s.keep (IE (j.trans x) z);have e:CY (Ed a c) d l i:=B.weak (fun b e _=>⟨by have:=j.size;unfold AY at e;omega,fun v=>by have:=(y.lt b v).2;have:=j.size;unfold AY at e;omega⟩);have t:=r.append e;have u:=t.weak (Q':=fun b=>Ed a c b/\Ed a f b) (fun b m q=>⟨m,TE A b m q⟩);exact(u.keep ((SV w).weak fun b h=>h.1)).weak fun b h _=>h.2
section
variable{V J cap:Nat}{T:List Az}{w:World}{s:PS}
theorem Ado{a:Nat}{b:List Gl}(h:Aj T Bx s=false):Bw T a b s=(b,s):=by
 cases a with
 |zero=>rfl
 |succ a=>rw[Bw,h];rfl
theorem Adn{b:Nat}{a:List Gl}(h:Aj T Bx s=true):Bw T (b+1) a s=Bw T b (a++[(AE T (Ab s)).1]) (AE T (Ab s)).2:=by rw[Bw,h];rfl
def AaJ(V J cap:Nat)(T:List Az)(b:List Gl×PS)(w:World)(c:Ending)(a:World):Prop:=
 ∃v O,c=.returned v/\a.ownsRow w.heap.size 175 1 v O.length O/\CY (AY w.heap.size) a O b.1/\PW V J cap T a b.2/\As V w a/\O≠[]/\O.length<=b.2.next+1
theorem Adp(f:AR T)(h:PW V J cap T w s)(Q:An T s):
 Ah 166 #[Al V] w fun e av=>AaJ V J cap T (BP T s) w e av:=by
 have k:=h.lt;have ao:=h.tlt;have a4:=h.size;obtain⟨au,ai,ap,aq,ar⟩:=info_parts Tryz.infoGlobal;have ad:=WD f h Q;have ak:=K5 f s Q;have M:Hid (BP T s=((Bw T T.length [(AE T s).1] (AE T s).2).1,Am T AQ (Bw T T.length [(AE T s).1] (AE T s).2).2)):=rfl;generalize AE T s=m at*;go_enter func166,ntmps166;go_wp2_with(go_at_call 188;refine ad.mono ?_;rintro e ac⟨ab,rfl,P,af,U⟩;have ay:=P.cells);go_loopw [3] (fun v wr=> ∃(a:PS)(O:List Value)(b:List Gl)(q:Nat),wr.ownsRow w.heap.size 175 1 v O.length O/\CY (Ed w.heap.size v) wr O b/\PW V J cap T wr a/\As V w wr/\An T a/\T.length<=a.next+q/\b.length<=a.next+1/\O≠[]/\Hid (Bw T q b a=Bw T T.length [m.1] m.2)) (fun _ wr=>T.length -Kp V wr)
 case atStart=>
  have a3:=U.size;have ag:=P.weak (Q':=Ed w.heap.size (Ar ac.heap.size 1 1)) (fun C p t=>⟨by unfold AY at p;omega,by simp[Value.ownBlock];omega⟩);exact⟨m.2,[ab],[m.1],T.length,World.ownsRow_lit ac #[ab] 1 (by omega) (by unfold maxLen;omega) rfl,.one (ag.keep ⟨by simp,fun C p t=>Below.heap_alloc _ _ _ t⟩),af.alloc _,U.alloc _,ak.1,by omega,by simp,by simp,rfl⟩
 case round=>
  obtain⟨a,O,b,q,u,H,E,c,g,a2,aw,al,r⟩:=hrel;have am:=Gq E;have aj:=c.size;have a0:a.next<T.length:=g;have W:=u.lt;have a5:=H.1;cases d:Aj T Bx a with
  |true=>
   have R:=AD f g d Ai;have X:=K5 f (Ab a) R;have ax:(Ab a).next=a.next+1:=rfl
   have D:=EM E g Bx d;obtain⟨x,rfl⟩: ∃x,q=x+1:=⟨q -1,by omega⟩;have B:Hid (Bw T x (b++[(AE T (Ab a)).1]) (AE T (Ab a)).2=Bw T T.length [m.1] m.2):=by show _=_;rw[<-r.out,Adn d]
   have ae:=fun z(o:PW V J cap T z (Ab a))=>WD f o R;generalize AE T (Ab a)=y at*;have a1:=X.2;clear r d
   go_wp2_with(first
    |(go_at_call 165;refine D.mono ?_;rintro e z⟨rfl,o,i⟩)
    |(go_at_call 188;refine(ae _ o).mono ?_;rintro e A⟨v4,rfl,G,F,j⟩;have az:=G.cells;have an:=G.one)
    |(at_builtin;refine Gw rfl _ _ 114 rfl w.heap.size 175 au _ 1 16 underlying114 ai ap aq ar rfl (by decide) _ _ _ rfl ((DY (DY u i k) j k).alloc _) (Ac _ 0) 1 1 [v4] rfl rfl (cell_one_new _ _ _) ?h1 ?h63 ?hby ?hbase ?hh
      case h1=>intro a7 Z;simp at Z;subst Z;exact an
      case h63=>unfold maxLen;omega
      case hby=>omega
      case hbase=>have:=i.size;have:=j.size;simp;omega
      intro K L Y S aa;have n:Aside (L.ownsRow w.heap.size 175 1 K (O.length+1) (O++[v4])/\(A.alloc (.cells #[v4] 175)).grownBy L u3.ownBlock/\(K.ownBlock=u3.ownBlock\/ ∀l,K.ownBlock=some l->(A.alloc (.cells #[v4] 175)).heap.size<=l)):=⟨Y,S,aa⟩
      clear Y S aa))
   have N:PW V J cap T L y.2:=(F.alloc _).grown n.out.2.1 (fun l c=>(W l c).1) k ao;have ah:CY (AY z.heap.size) (A.alloc (.cells #[v4] 175)) [v4] [y.1]:=.one (G.keep ⟨by simp,fun C p t=>Below.heap_alloc _ _ _ t⟩)
   go_roundw
   case rel=>
    exact⟨y.2,O++[v4],b++[y.1],x,by rw[AG];exact n.out.1,CY.grow k aj H u i (j.alloc _) ah n.out.2.1 n.out.2.2,N,
     He ((c.trans (i.trans j)).alloc _) n.out.2.1 (fun l c=>(W l c).1),X.1,by omega,by rw[AG];simp;omega,by simp,B⟩
   case measure=>
    rw[Gq N,am];omega
  |false=>
   have D:=D2 E g Bx d;have B:Hid (BP T s=(b,Am T AQ a)):=by show _=_;rw[M.out,<-r.out,Ado d]
   have a6:=(Ch f (f:=AQ) Ai g).2;clear r d M;go_wp2_with(first|(go_at_call 165;refine D.mono ?_;rintro e z⟨rfl,o,i⟩)|(go_at_call 144;refine(F4 o g AQ).mono ?_;rintro e A⟨rfl,F,j⟩));go_ret;have I:=i.trans j;refine⟨_,O,rfl,DY u I k,?_⟩;rw[B.out];exact⟨(H.keep (IE I k)).weak (fun C p _=>p.1),F,c.trans I,al,by show O.length<=(Am T AQ a).next+1;omega⟩
end
theorem YC{w:World}{base:Nat}{g:TypeId}{size:Nat}{v:Value}{e:Nat}{f:List Value}(h:w.ownsRow base g size v e f)(n:0<e):
 ∃a c,v=Ar a e c/\base<=a/\a<w.heap.size/\ ∀b d,f[b]? =some d->w.cell? (((Ac a 0):Addr).add b)=some d:=by
 have m:=h.lt;rcases id h.2 with⟨rfl,l⟩|⟨a,c,Ad,rfl,i,j,o⟩
 ·omega
 ·exact⟨a,c,rfl,i,(Ju.1 j).1,fun b d k=>h.cells (g:=a) rfl b d k⟩
theorem JW{Q:AW}{w:World}{v:Value}{O:List Value}(h:B8 Q w v O):v.oneCell'=true:=by rcases h with⟨rfl,_⟩|⟨a,c,rfl,_⟩<;>rfl
theorem Zu{Q:AW}{w:World}{v:Value}{O:List A8}(h:Dt Q w v O):v.oneCell'=true:=by rcases h with⟨rfl,_⟩|⟨a,c,rfl,_⟩<;>rfl
section
variable{V J cap:Nat}{T:List Az}{w:World}{s:PS}
theorem Xi(c:AR T): ∀(b:Nat)(a:List A8)(s:PS),An T s->a≠[]->(Bp T b a s).1.length+s.next<=a.length+(Bp T b a s).2.next/\(Bp T b a s).1≠[]
 |0,a,s,_,d=>⟨AA _,d⟩
 |b+1,a,s,g,d=>by
  rw[Bp];split
  ·rename_i h;have i:=AD c g h Ai;have e:=Gn c (Ab s) i;have f:=Xi c b (a++[(Ap T (Ab s)).1]) (Ap T (Ab s)).2 e.1 (by simp);have j:(Ab s).next=s.next+1:=rfl
   have k:(a++[(Ap T (Ab s)).1]).length=a.length+1:=by simp
   have:=e.2;exact⟨by omega,f.2⟩
  ·exact⟨AA _,d⟩
theorem AdZ(b:AR T)(s:PS)(e:An T s):(Bf T s).1.length+s.next<=1+(Bf T s).2.next/\(Bf T s).1≠[]:=by have a:=Gn b s e;have d:=Xi b T.length [(Ap T s).1] (Ap T s).2 a.1 (by simp);have c:Bf T s=Bp T T.length [(Ap T s).1] (Ap T s).2:=rfl;have f:[(Ap T s).1].length=1:=rfl;rw[c];have:=a.2;exact⟨by omega,d.2⟩
theorem Aep{a:Nat}{b:List A8}(h:Aj T CJ s=false):B5 T a b s=(b,s):=by
 cases a with
 |zero=>rfl
 |succ a=>rw[B5,h];rfl
theorem Aeo{b:Nat}{a:List A8}(h:Aj T CJ s=true):B5 T (b+1) a s=B5 T b (a++(Bf T (Ab s)).1) (Am T AQ (Bf T (Ab s)).2):=by rw[B5,h];rfl
def AaV(V J cap:Nat)(T:List Az)(a:Ro×PS)(w:World)(f:Ending)(b:World):Prop:=
 ∃e d c O,f=.returned (.agg #[.string a.1.name.1,Aa a.1.name.2,e,d,c])/\Dt (AY w.heap.size) b e a.1.params/\Dt (AY w.heap.size) b d a.1.locals/\B8 (AY w.heap.size) b c O/\Di (AY w.heap.size) b O a.1.body/\PW V J cap T b a.2/\As V w b
theorem Zd(b:AR T)(h:PW V J cap T w s)(E:An T s):
 Ah 167 #[Al V] w fun c cb=>AaV V J cap T (AZ T s) w c cb:=by
 have b0:=h.lt;have cy:=h.tlt;have cw:=h.size;obtain⟨b7,ac,b4,b5,b6⟩:=info_parts Tryz.infoName;have bn:=fun o=>LV (h.alloc o) E;have ap:=(Gn b s E).1;have aq:=(Ch b (f:=Bl) Ai ap).1;have az:=(X3 b s E).1;have bi:=(Ch b (f:=AJ) Ai az).1;have a0:=(Ty b s E).1;have bl:=fun k(l:PW V J cap T k (Cx T s).2)=>U8 b l a0;have bu:=(OA b _ a0).1;have am:Hid (AZ T s=(⟨((Ap T s).1.1,(Ap T s).1.2),(ET T s).1,(Cx T s).1,(BT T (Cx T s).2).1⟩,Am T AQ (BT T (Cx T s).2).2)):=rfl;have Q:Hid (ET T s=Cz T (Am T Bl (Ap T s).2)):=rfl;have bf:Hid (Cx T s=B5 T T.length [] (Am T AJ (ET T s).2)):=rfl;generalize BT T (Cx T s).2=bb at*;generalize Cx T s=p at*;generalize ET T s=n at*;generalize(Ap T s).1.1=a9 at*;generalize(Ap T s).1.2=ba at*;generalize(Ap T s).2=P at*;have ar:=fun bd(t:PW V J cap T bd (Am T Bl P))=>X9 b t aq;go_enter func167,ntmps167;go_upto_if 13 with(first|(go_at_call 189;refine(bn _).mono ?_;rintro c k⟨rfl,l,a1⟩;have bw:=l.lt;have cu:w.heap.size+1<=k.heap.size:=by(have:=a1.size;simp at this;omega))|(go_at_call 144;refine(F4 (l.alloc _) ap Bl).mono ?_;rintro c cc⟨rfl,ax,ae⟩)|(go_at_call 187;refine(Ns ax aq AJ).mono ?_;rintro c c3⟨rfl,Z⟩;have t:=ax.below Z;have G:=As.of_below (pb:=V) Z))
 go_cut [4] (fun bc al=>PW V J cap T al n.2/\As V cc al/\Dt (AY (w.heap.size+1)) al bc n.1)
 case first=>
  cases M:Aj T AJ (Am T Bl P)
  ·have R:Hid (Bf T (Am T Bl P)=n):=by show _=_;rw[Q.out];unfold Cz;rw[M];rfl
   clear M;go_wp2_with(go_at_call 190;refine(ar _ t).mono ?_;rw[R.out];rintro c bd⟨bc,rfl,aw,u,bv⟩;have bt:=(OP aw).cells);go_meet;exact⟨u,G.trans bv,(OP aw).weak fun f D _=>by unfold AY at*;have bg:=ae.size;have cd:=G.size;simp at bg;omega⟩
  ·have R:Hid (([],Am T Bl P)=n):=by show _=_;rw[Q.out];unfold Cz;rw[M];rfl
   clear M;go_wp2_with fail;go_meet;rw[<-R.out];exact⟨t,G,.inl ⟨rfl,rfl⟩⟩
 case rest=>
  obtain⟨bq,a2,av⟩:=hcut;have bt:=av.cells;clear Q ar t G Z;go_upto_region 7 with(go_at_call 144;refine(F4 bq az AJ).mono ?_;rintro c q⟨rfl,u,af⟩);have au:=av.keep (af.keepQ (by omega));have ad:=(ae.trans a2).trans af;have a3:As V (w.alloc (.cells #[.string ⟨#[]⟩,Aa 0,Aw,Aw,Aw] 218)) q:=(a1.alloc _).trans ad;have cv:k.heap.size+1<=q.heap.size:=by have:=ad.size;simp at this;omega
  have K:=u.lt;have b2:=u.tlt;clear ae a2 af;go_loopw [5] (fun v wr=> ∃(a:PS)(d:List A8)(A:Nat),wr.ownsRow q.heap.size 210 2 v d.length (E4 d)/\PW V J cap T wr a/\As V q wr/\An T a/\T.length<=a.next+A/\d.length<=a.next/\Hid (B5 T A d a=p)) (fun _ wr=>T.length -Kp V wr)
  case atStart=>exact⟨Am T AJ n.2,[],T.length,World.ownsRow_nil _ _ _ _,u,As.refl _ _,bi,by omega,by simp,bf.out.symm⟩
  case round=>
   obtain⟨a,d,A,z,U,g,F,cr,cf,C⟩:=hrel;have bz:=Gq U;have cm:=g.size;have cj:a.next<T.length:=F;have a5:=z.lt;cases j:Aj T CJ a with
   |true=>
    have aa:=AD b F j Ai;have L:=Qn b (Ab a) aa;have a6:=Ch b (f:=AQ) Ai L.1;have ag:=AdZ b (Ab a) aa;have cg:(Ab a).next=a.next+1:=rfl
    have S:=EM U F CJ j;obtain⟨O,rfl⟩: ∃O,A=O+1:=⟨A -1,by omega⟩;have r:Hid (B5 T O (d++(Bf T (Ab a)).1) (Am T AQ (Bf T (Ab a)).2)=p):=by show _=_;rw[<-C.out,Aeo j]
    have bo:=fun ak(x:PW V J cap T ak (Ab a))=>X9 b x aa;generalize Bf T (Ab a)=e at*;have cp:=L.2;have co:e.2.next<T.length:=L.1;have cq:=a6.2;have cn:=ag.1;have bx:0<e.1.length:=Mk.2 ag.2;clear C j ag
    go_wp2_with(first
     |(go_at_call 165;refine S.mono ?_;rintro c ak⟨rfl,x,i⟩)
     |(go_at_call 190;refine(bo _ x).mono ?_;rintro c be⟨v6,rfl,bp,W,m⟩;obtain⟨bj,bh,rfl,ck,cl,br⟩:=YC bp bx)
     |(at_builtin;refine Gw rfl _ _ 216 rfl q.heap.size 210 b7 _ 2 24 underlying216 ac b4 b5 b6 rfl (by decide) _ _ _ rfl (DY (DY z i K) m K) (Ac bj 0) e.1.length bh (E4 e.1) rfl (X7 _) br (Afg _) ?yh63 ?yhby ?yhbase ?yhh
       case yh63=>unfold maxLen;omega
       case yhby=>omega
       case yhbase=>have:=i.size;have:=m.size;omega
       intro b9 B a7 ab b3;have ao:Aside (B.ownsRow q.heap.size 210 2 b9 (d.length+e.1.length) (E4 d++E4 e.1)/\be.grownBy B u5.ownBlock):=⟨a7,ab⟩;have X:PW V J cap T B e.2:=W.grown ab (fun ai g=>(a5 ai g).1) K b2
       clear a7 ab b3)
     |(go_at_call 144;refine(F4 X L.1 AQ).mono ?_;rintro c c4⟨rfl,ay,a4⟩))
    go_roundw
    case rel=>
     exact⟨Am T AQ e.2,d++e.1,O,by rw[AG,X5];exact DY ao.out.1 a4 K,ay,
      (He (g.trans (i.trans m)) ao.out.2 (fun ai g=>(a5 ai g).1)).trans a4,a6.1,by omega,by rw[AG];omega,r⟩
    case measure=>
     rw[Gq ay,bz];omega
   |false=>
    have S:=D2 U F CJ j;have r:Hid (p=(d,a)):=by show _=_;rw[<-C.out,Aep j]
    have a8:p.2=a:=by rw[r.out]
    have b1:Hid (p.1=d):=by show _=_;rw[r.out]
    have bm:=fun k(l:PW V J cap T k a)=>bl k (a8▸l);clear C j r a8
    go_wp2_with(first
     |(go_at_call 165;refine S.mono ?_;rintro c ak⟨rfl,x,i⟩)
     |(go_at_call 143;refine(bm _ x).mono ?_;rintro c be⟨aj,ca,rfl,Y,bk,W,m⟩;have ch:=Y.cells;have cx:=Cf (v:=aj) (JW Y))
     |(go_at_call 144;refine(F4 W bu AQ).mono ?_;rintro c B⟨rfl,X,I⟩
       have H:=((g.trans i).trans m).trans I;obtain⟨b8,q1,cs⟩:=(a3.trans H).new b0;obtain⟨c1,c2,ct⟩:=(ad.trans H).new bw;have ci:=(OP z).cells;have cz:=Cf (v:=u5) (Zu (OP z))
       have c0:=Cf (v:=u4) (Zu au)))
    refine bodyPost_ret (v:=.agg #[.string a9,Aa ba,u4,u5,aj]) (by simp[results,results167,go_sem,b8]) rfl ?_;go_light;refine⟨_,_,_,ca,by rw[am.out],?_⟩;rw[am.out];show Dt _ _ _ n.1/\Dt _ _ _ p.1/\B8 _ _ _ _/\Di _ _ _ bb.1/\PW _ _ _ _ _ (Am T AQ bb.2)/\_;rw[b1.out];have ce:=i.size;have y: ∀ah,AY (w.heap.size+1) ah->ah≠w.heap.size:=fun ah ac=>by unfold AY at ac;omega
    have N:=((((BR.refl (AY (w.heap.size+1)) B).setCell (Ac w.heap.size 0) (.string a9) y).setCell (Ac w.heap.size 1) (Aa ba) y).setCell (Ac w.heap.size 2) u4 y).setCell (Ac w.heap.size 3) u5 y|>.setCell (Ac w.heap.size 4) aj y;have up: ∀(an:World) f,AY (w.heap.size+1) f->f<an.heap.size->AY w.heap.size f:=fun an f D _=>by unfold AY at*;omega
    refine⟨((au.keep (H.keepQ (by omega))).keep N).weak (up _),
     ((((OP z).weak (Q':=AY (w.heap.size+1)) fun f D _=>by unfold AY at*;omega).keep (((i.trans m).trans I).keepQ (by omega))).keep N).weak (up _),
     (((Y.weak (Q':=AY (w.heap.size+1)) fun f D _=>by unfold AY at*;omega).keep (I.keepQ (by omega))).keep N).weak (up _),
     (((bk.weak (Q':=AY (w.heap.size+1)) fun f D _=>by unfold AY at*;omega).keep (I.keepQ (by omega))).keep N).weak (up _),
     ((((X.setOther _ _ ?_ ?_).setOther _ _ ?_ ?_).setOther _ _ ?_ ?_).setOther _ _ ?_ ?_).setOther _ _ ?_ ?_,
     ((((((((As.refl _ _).alloc _).trans a3).trans H).setNew ?_ _).setNew ?_ _).setNew ?_ _).setNew ?_ _).setNew ?_ _⟩
    all_goals(simp;try omega)
variable{U X Z I:Nat}{Y:Option Nat}{c:Nat×Nat}{L:Ds}{E:Ao}{Q:AW}
theorem Lb{U a:Nat}{w b:World}(c:As U w b)(d:a<w.heap.size)(e:a≠U)(o:Nat):b.cell? (Ac a o)=w.cell? (Ac a o):=World.cell?_of_block (w:=w) (c.block a d e)
theorem IS{U:Nat}{w c:World}{a:Array Value}{b:TypeId}(h:U<w.heap.size)(d:As U (w.alloc (.cells a b)) c)(o:Nat):c.cell? (Ac w.heap.size o)=a[o]? :=by rw[Lb d (by simp) (by omega)];exact Cl w a b o
theorem AeG(a:Af)(p:Nat){e:Ex}(C:LX U X Z I Y L E e):LX U X Z I Y L E (.elem a p e):=by
 intro Q w v c h l u i f;cases u with
 |elem _ _ g=>
 rename_i n;have H:=g.cells;have J:=Cf g.one;rw[BX] at f;have A:=h.lt;have B:a.size<=maxLen:=by have:=f.1.2;unfold maxLen;omega
 have m: ∀b,Ay w (w.alloc b):=fun b=>AP;have x: ∀b,Ah 171 #[Al U,.agg #[.string a,Aa p],Aa 2] (w.alloc b) (DP U X Z I Y L (AF (Dz E a p 1) c) (w.alloc b)):=fun b=>by rw[<-Nw l];exact NC (h.below (m b)) B p 1
 have q: ∀d,PL U X Z I Y d (AF (Dz E a p 1) c) L->As U w d->Ah 170 #[Al U,n] d (DP U X Z I Y L (AF (AV E (.elem a p e)) c) d):=fun d r y=>by rw[AV,<-FT _ _ (IR _ _ _ _)];exact C Q d n _ r (Jn l _) (g.keep (FZ i y)) i f.2
 generalize AF (AV E (.elem a p e)) c=F at*;generalize AF (Dz E a p 1) c=D at*;go_enter func170,ntmps170;go_wp2_with(first|(go_at_call 171;refine(x _).mono ?_;rintro o d⟨rfl,s,j⟩;have G:=IS A j 2;have k:=(As.of_below (m _)).trans j)|(go_at_call 170;refine(q _ s k).mono ?_;rintro o K⟨rfl,t,z⟩));go_end0;exact⟨rfl,t,k.trans z⟩
theorem AeE(op:Af){b f:Ex}(C:LX U X Z I Y L E b)(D:LX U X Z I Y L E f):LX U X Z I Y L E (.bin op b f):=by
 intro Q w v c h n x e j;cases x with
 |bin _ g i=>
 rename_i o p;have J:=g.cells;have M:=Cf g.one;have K:=i.cells;have N:=Cf i.one;rw[BX] at j;have B:=h.lt;have k: ∀a,Ay w (w.alloc a):=fun a=>AP
 have y: ∀a,Ah 170 #[Al U,o] (w.alloc a) (DP U X Z I Y L (AF (AV E b) c) (w.alloc a)):=fun a=>
  C Q _ o _ (h.below (k a)) n (g.keep (FZ e (As.of_below (k _)))) e j.1
 have r: ∀d,PL U X Z I Y d (AF (AV E b) c) L->As U w d->Ah 170 #[Al U,p] d (DP U X Z I Y L (AF (AV E (.bin op b f)) c) d):=fun d s z=>by rw[AV,<-FT _ _ (DG _ _)];exact D Q d p _ s (Jn n _) (i.keep (FZ e z)) e j.2
 generalize AF (AV E (.bin op b f)) c=G at*;generalize AF (AV E b) c=F at*;go_enter func170,ntmps170;go_wp2_with(first|(go_at_call 170;refine(r _ t m).mono ?_;rintro q O⟨rfl,u,A⟩)|(go_at_call 170;refine(y _).mono ?_;rintro q d⟨rfl,t,l⟩;have H:=IS B l 2;have m:=(As.of_below (k _)).trans l));go_end0;exact⟨rfl,u,m.trans A⟩
theorem AeJ(op:Af){b:Ex}(o:LX U X Z I Y L E b):LX U X Z I Y L E (.un op b):=by
 intro Q w v c h n k g f;cases k with
 |un _ d=>
 rename_i i;have q:=d.cells;have s:=Cf d.one;rw[BX] at f;have r:=h.lt;have e: ∀a,Ay w (w.alloc a):=fun a=>AP;have l: ∀a,Ah 170 #[Al U,i] (w.alloc a) (DP U X Z I Y L (AF (AV E (.un op b)) c) (w.alloc a)):=fun a=>by rw[AV];exact o Q _ i _ (h.below (e a)) n (d.keep (FZ g (As.of_below (e _)))) g f
 generalize AF (AV E (.un op b)) c=p at*;go_enter func170,ntmps170;go_wp2_with(go_at_call 170;refine(l _).mono ?_;rintro b t⟨rfl,j,m⟩);go_end0;exact⟨rfl,j,(As.of_below (e _)).trans m⟩
theorem Xz(E:Ao): ∀(c:List Ex)(b:Nat)(a:Ex),c[b]? =some a->Cy E (c.take (b+1))=(Cy E (c.take b)).or (AV E a)
 |[],b,a,h=>by simp at h
 |d::c,0,a,h=>by simp at h;subst h;rw[EN,Eo,Eo,Cy,Cy];cases AV E d<;>rfl
 |d::c,b+1,a,h=>by rw[EN,EN,Cy,Cy,Xz E c b a (by simpa using h)];cases AV E d<;>rfl
theorem TG: ∀{c:List Ex}{d:Nat}{a:Ex},EO c->c[d]? =some a->BX a
 |[],d,a,_,h=>by simp at h
 |e::c,0,a,b,h=>by simp at h;subst h;rw[EO] at b;exact b.1
 |e::c,d+1,a,b,h=>by rw[EO] at b;exact TG b.2 (by simpa using h)
section
variable{Q:AW}{w:World}{v:Value}{O:List Value}(h:B8 Q w v O)
include h
theorem B8.at{b:Nat}(c:b<O.length): ∃a cap,v=Ar a O.length cap/\Q a/\a<w.heap.size/\w.cell? (Ac a b)=some O[b]:=by
 rcases h with⟨_,rfl⟩|⟨a,cap,g,f,e,d⟩
 ·simp at c
 ·exact⟨a,cap,g,f,e,d b _ (Bb c)⟩
theorem B8.len: ∃a cap,v=.slice a O.length cap:=by
 rcases h with⟨rfl,rfl⟩|⟨c,cap,b,_⟩
 ·exact⟨none,0,rfl⟩
 ·exact⟨_,cap,b⟩
end
def LC(U X Z I:Nat)(Y:Option Nat)(L:Ds)(E:Ao)(args:List Ex):Prop:=
 ∀(Q:AW)(w:World)(e:Value)(O:List Value)(b:Af)(p a:Nat)(c:Nat×Nat),(a=2\/a=3)->PL U X Z I Y w c L->(c.1=0->C8 L E)->B8 Q w e O->FI Q w O args->(∀d,Q d->d≠U)->DH b->args.length<=602->EO args->
  Ah 172 #[Al U,.agg #[.string b,Aa p],e,Aa ((a+1:Nat):Int)] w (DP U X Z I Y L (AF ((GJ E b p a args.length).or (Cy E args)) c) w)
theorem Xf{args:List Ex}(ax: ∀g∈args,LX U X Z I Y L E g):LC U X Z I Y L E args:=by
 intro Q w a9 O d p f c M h z D ad v au a7 al;have y:=h.lt;have a5:=Aiy;have a8:=ad.1;have ai:d.size<=maxLen:=by have:=au.2;unfold maxLen;omega
 have aa: ∀i,Ay w (w.alloc i):=fun i=>AP;have ag: ∀i,Ah 171 #[Al U,.agg #[.string d,Aa p],Aa ((f+1:Nat):Int)] (w.alloc i) (DP U X Z I Y L (AF (Dz E d p f) c) (w.alloc i)):=fun i=>by rw[<-Nw z];exact NC (h.below (aa i)) ai p f
 have hF:=fun B(b:PL U X Z I Y B (AF (Dz E d p f) c) L)=>V1 b ai p;have m:=AiI z d p f args.length M;unfold Ci at hF;generalize(L.find d)=ab at*;obtain⟨ay,az,rfl⟩:=D.len;generalize an:AF (Dz E d p f) c=ak at*;generalize J:AF (GJ E d p f args.length) c=o at*;have ac:Hid (AF ((GJ E d p f args.length).or (Cy E args)) c=AF (Cy E args) o):=by show _=_;rw[<-FT _ _ (OD _ _ _ _ _),J]
 have aj:o.1=0->C8 L E:=by rw[<-J];exact Jn z _
 clear J an
 have u:Hid (∀(a:Nat)(x:a<O.length)(wr:World),PL U X Z I Y wr (AF (Cy E (args.take a)) o) L->As U w wr->
  Ah 170 #[Al U,O[a]] wr (DP U X Z I Y L (AF (Cy E (args.take (a+1))) o) wr)):=by
  intro a x wr b M;have ah:a<args.length:=by omega
  have K:args[a]? =some args[a]:=Bb ah;rw[Xz E args a _ K,<-FT _ _ (Qp _ _)];exact ax _ (D4 ah) Q wr _ _ b (Jn aj _) ((ad.2 a _ _ (Bb x) K).keep (FZ v M)) v (TG al K)
 have HS:Hid (B8 Q w (.slice ay O.length az) O):=D;generalize ao:AF ((GJ E d p f args.length).or (Cy E args)) c=a3 at*;clear D z aj ao;by_cases A:ab.2=args.length
 ·rw[Ag A,Gu] at m;subst m;have m:True:=trivial;have aw:((ab.2:Int) !=(args.length:Int))=false:=by simp;omega
  clear A;go_enter func172,ntmps172;go_wp2_with(first|(go_at_call 171;refine(ag _).mono ?_;rintro g B⟨rfl,r,j⟩;have am:=IS y j 0;have H:=IS y j 1;have N:=(As.of_below (aa _)).trans j)|(go_at_call 192;refine(hF _ r).mono ?_;rintro g a1⟨rfl,l⟩));go_loopw [9,29] (fun _ k wr=> ∃a:Nat,k=Aa a/\a<=args.length/\PL U X Z I Y wr (AF (Cy E (args.take a)) ak) L/\As U w wr) (fun _ k _=>args.length -(intOf k).toNat)
  case atStart=>exact⟨0,rfl,B6 _,by rw[Eo,Cy,Gu];exact r.below l,N.trans (As.of_below l)⟩
  case round=>
   obtain⟨a,rfl,x,b,e⟩:=hrel;by_cases ar:a<args.length
   ·have t:a<O.length:=by omega
    obtain⟨n,cap,S,R,G,s⟩:=HS.out.at t;injection S with T V W;subst T W;clear V;have ap:wr.cell? (Ac n a)=some O[a]:=(Lb e G (v n R) a).trans s;have F:=u.out a t wr b e;clear s u HS b;generalize O[a]=a0 at*;go_wp2_with(go_at_call 170;refine F.mono ?_;rintro g a2⟨rfl,C,P⟩)
    go_roundw
    case rel=>exact⟨a+1,by go_num,by omega,C,e.trans P⟩
    case measure=>simp[intOf];omega
   ·have q:a=args.length:=by omega
    rw[q,E7] at b;subst q;go_wp2;go_end0;exact⟨rfl,by rw[ac.out];exact b,e⟩
 ·rw[Ae A] at m;have aw:((ab.2:Int) !=(args.length:Int))=true:=by simp;omega
  clear A;go_enter func172,ntmps172;go_wp2_with(first|(go_at_call 171;refine(ag _).mono ?_;rintro g B⟨rfl,r,j⟩;have am:=IS y j 0;have H:=IS y j 1;have N:=(As.of_below (aa _)).trans j;have av:w.heap.size<B.heap.size:=De (v:=Aa p) H)|(go_at_call 192;refine(hF _ r).mono ?_;rintro g a1⟨rfl,l⟩;have ae:=r.below l;have a4:=(l.cell (p:=Ac w.heap.size 1) av).trans H;have a6:=ae.lt));go_region_with (go_at_call 148;refine(Oz (ae.below (Below.refl _ _).drew) 7 p).mono ?_;rintro g ba⟨rfl,af,aq⟩)
  all_goals go_wp2
  all_goals rw[m] at af
  go_loopw [9,29] (fun _ k wr=> ∃a:Nat,k=Aa a/\a<=args.length/\PL U X Z I Y wr (AF (Cy E (args.take a)) o) L/\As U w wr) (fun _ k _=>args.length -(intOf k).toNat)
  case atStart=>exact⟨0,rfl,B6 _,by rw[Eo,Cy,Gu];exact af,((N.trans (As.of_below l)).drewN 1).trans aq⟩
  case round=>
   obtain⟨a,rfl,x,b,e⟩:=hrel;by_cases ar:a<args.length
   ·have t:a<O.length:=by omega
    obtain⟨n,cap,S,R,G,s⟩:=HS.out.at t;injection S with T V W;subst T W;clear V;have ap:wr.cell? (Ac n a)=some O[a]:=(Lb e G (v n R) a).trans s;have F:=u.out a t wr b e;clear s u HS b;generalize O[a]=a0 at*;go_wp2_with(go_at_call 170;refine F.mono ?_;rintro g a2⟨rfl,C,P⟩)
    go_roundw
    case rel=>exact⟨a+1,by go_num,by omega,C,e.trans P⟩
    case measure=>simp[intOf];omega
   ·have q:a=args.length:=by omega
    rw[q,E7] at b;subst q;go_wp2;go_end0;exact⟨rfl,by rw[ac.out];exact b,e⟩
theorem AeF(b:Af)(p:Nat){args:List Ex}(x: ∀d∈args,LX U X Z I Y L E d):LX U X Z I Y L E (.call b p args):=by
 intro Q w v c h t o k f;cases o with
 |call _ _ e i j=>
 rename_i m O;rw[BX] at f;have A:=h.lt;have B:=Cf (JW e);have g: ∀a,Ay w (w.alloc a):=fun a=>AP;have q: ∀a,Ah 172 #[Al U,.agg #[.string b,Aa p],m,Aa 4] (w.alloc a) (DP U X Z I Y L (AF (AV E (.call b p args)) c) (w.alloc a)):=fun a=>by rw[AV];have l:=FZ k (As.of_below (pb:=U) (g a));exact Xf x Q _ m O b p 3 c (.inr rfl) (h.below (g a)) t (e.keep l) ⟨i,fun y v d u r=>(j y v d u r).keep l⟩ k f.1 f.2.1 f.2.2
 obtain⟨C,D,rfl⟩:=e.len;clear e i j;generalize AF (AV E (.call b p args)) c=z at*;go_enter func170,ntmps170;go_wp2_with(go_at_call 172;refine(q _).mono ?_;rintro d F⟨rfl,n,s⟩);go_end0;exact⟨rfl,n,(As.of_below (g _)).trans s⟩
mutual
theorem Jf: ∀a,LX U X Z I Y L E a
 |.nil=>AeH
 |.num k=>AeI k
 |.var c p=>AeK c p
 |.elem c p i=>AeG c p (Jf i)
 |.call c p args=>AeF c p (Tq args)
 |.bin op b j=>AeE op (Jf b) (Jf j)
 |.un op a=>AeJ op (Jf a)
theorem Tq: ∀(b:List Ex),∀a∈b,LX U X Z I Y L E a
 |[]=>fun a d=>by simp at d
 |e::b=>fun a d=>by
  have f:=Jf e;have g:=Tq b;rcases C0.1 d with h|h
  ·rw[h];exact f
  ·exact g a h
end
def LS(U X Z I:Nat)(Y:Option Nat)(L:Ds)(E:Ao)(s:St):Prop:=
 ∀(Q:AW)(w:World)(v:Value)(c:Nat×Nat),PL U X Z I Y w c L->(c.1=0->C8 L E)->Dd Q w v s->(∀a,Q a->a≠U)->Dc s->
  Ah 150 #[Al U,v] w (DP U X Z I Y L (AF (A5 E s) c) w)
def LL(U X Z I:Nat)(Y:Option Nat)(L:Ds)(E:Ao)(a:List St):Prop:=
 ∀(Q:AW)(w:World)(d:Value)(O:List Value)(c:Nat×Nat),PL U X Z I Y w c L->(c.1=0->C8 L E)->B8 Q w d O->Di Q w O a->(∀b,Q b->b≠U)->a.length<=602->Ep a->
  Ah 121 #[Al U,d] w (DP U X Z I Y L (AF (Bz E a) c) w)
theorem XE(E:Ao): ∀(c:List St)(b:Nat)(a:St),c[b]? =some a->Bz E (c.take (b+1))=(Bz E (c.take b)).or (A5 E a)
 |[],b,a,h=>by simp at h
 |d::c,0,a,h=>by simp at h;subst h;rw[EN,Eo,Eo,Bz,Bz];cases A5 E d<;>rfl
 |d::c,b+1,a,h=>by rw[EN,EN,Bz,Bz,XE E c b a (by simpa using h)];cases A5 E d<;>rfl
theorem Yk: ∀{c:List St}{d:Nat}{a:St},Ep c->c[d]? =some a->Dc a
 |[],d,a,_,h=>by simp at h
 |e::c,0,a,b,h=>by simp at h;subst h;rw[Ep] at b;exact b.1
 |e::c,d+1,a,b,h=>by rw[Ep] at b;exact Yk b.2 (by simpa using h)
theorem Xx{b:List St}(J: ∀n∈b,LS U X Z I Y L E n):LL U X Z I Y L E b:=by
 intro Q w T O c h t g p f P u;have R:=h.lt;have H:=p.1;obtain⟨K,M,rfl⟩:=g.len
 have l:Hid (∀(a:Nat)(j:a<O.length)(wr:World),PL U X Z I Y wr (AF (Bz E (b.take a)) c) L->As U w wr->
  Ah 150 #[Al U,O[a]] wr (DP U X Z I Y L (AF (Bz E (b.take (a+1))) c) wr)):=by
  intro a j wr d z;have r:a<b.length:=by omega
  have i:b[a]? =some b[a]:=Bb r;rw[XE E b a _ i,<-FT _ _ (Jj _ _)];exact J _ (D4 r) Q wr _ _ d (Jn t _) ((p.2 a _ _ (Bb j) i).keep (FZ f z)) f (Yk u i)
 have HS:Hid (B8 Q w (.slice K O.length M) O):=g;clear g t;rw[H];go_enter func121,ntmps121;go_wp2;go_loopw [5,8] (fun _ k wr=> ∃a:Nat,k=Aa a/\a<=b.length/\PL U X Z I Y wr (AF (Bz E (b.take a)) c) L/\As U w wr) (fun _ k _=>b.length -(intOf k).toNat)
 case atStart=>exact⟨0,rfl,B6 _,by rw[Eo,Bz,Gu];exact h,As.refl _ _⟩
 case round=>
  obtain⟨a,rfl,j,d,e⟩:=hrel;by_cases S:a<b.length
  ·have s:a<O.length:=by omega
   obtain⟨m,cap,C,B,y,q⟩:=HS.out.at s;injection C with D F G;subst D G;clear F;have N:wr.cell? (Ac m a)=some O[a]:=(Lb e y (f m B) a).trans q;have x:=l.out a s wr d e;clear q l HS d;generalize O[a]=V at*;go_wp2_with(go_at_call 150;refine x.mono ?_;rintro n W⟨rfl,v,A⟩)
   go_roundw
   case rel=>exact⟨a+1,by go_num,by omega,v,e.trans A⟩
   case measure=>simp[intOf];omega
  ·have o:a=b.length:=by omega
   rw[o,E7] at d;subst o;go_wp2;go_end0;exact⟨rfl,d,e⟩
end
