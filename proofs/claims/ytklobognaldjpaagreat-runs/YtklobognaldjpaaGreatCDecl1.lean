/- A list of statements. A statement. What is declared: a body, -/
import Derived.Test.YtklobognaldjpaaGreatCStmt2
set_option maxRecDepth 1000000
set_option maxHeartbeats 2000000
namespace Go.Proofs.YtklobognaldjpaaGreat
open Go.Proofs.Tryz
open Go.RowKit
def Di(Q:AW)(w:World)(c:List Value)(a:List St):Prop:=c.length=a.length/\ ∀(b:Nat) v e,c[b]? =some v->a[b]? =some e->Dd Q w v e
theorem Di.keep{Q:AW}{w c:World}{b:List Value}{a:List St}(h:Di Q w b a)(f:BR Q w c):Di Q c b a:=⟨h.1,fun i v e g d=>(h.2 i v e g d).keep f⟩
theorem Di.weak{Q Q':AW}{w:World}{c:List Value}{b:List St}(h:Di Q w c b)(f: ∀a,Q a->a<w.heap.size->Q' a):Di Q' w c b:=⟨h.1,fun i v e g d=>(h.2 i v e g d).weak f⟩
theorem Di.snoc{Q:AW}{w:World}{f:List Value}{c:List St}{v:Value}{e:St}(h:Di Q w f c)(l:Dd Q w v e):Di Q w (f++[v]) (c++[e]):=by
 refine⟨by simp[h.1],fun d j k a b=> ?_⟩;by_cases g:d<f.length
 ·rw[CR g] at a;rw[CR (by rw[<-h.1];exact g)] at b;exact h.2 d j k a b
 ·rw[CS (by omega)] at a;rw[CS (by rw[<-h.1];omega)] at b;rw[h.1] at a;cases i:d -c.length with
  |zero=>rw[i] at a b;simp at a b;subst a b;exact l
  |succ m=>rw[i] at a;simp at a
theorem Di.grow{O a:Nat}{c g p:Value}{wr n d s:World}{e:TypeId}{E:Nat}{i:List Value}{j:List St}{l:St}(r:O<a)(F:a<=wr.heap.size)
 (v:Di (Ed a c) wr i j)(B:wr.ownsRow a e 1 c E i)(m:As O wr n)(A:As O n d)(D:Dd (AY n.heap.size) d p l)(o:Obj)
 (z:(d.alloc o).grownBy s c.ownBlock)(C:g.ownBlock=c.ownBlock\/ ∀k,g.ownBlock=some k->(d.alloc o).heap.size<=k):Di (Ed a g) s (i++[p]) (j++[l]):=by
 have u:Di (Ed a c) (d.alloc o) i j:=v.keep (IE ((m.trans A).alloc o) r);have f:Dd (Ed a c) (d.alloc o) p l:=(D.weak (fun b f _=>⟨by have:=m.size;unfold AY at f;omega,fun y=>by have:=(B.lt b y).2;have:=m.size;unfold AY at f;omega⟩)).keep (IE ((As.refl O d).alloc o) r);have w:=u.snoc f;have x:=w.weak (Q':=fun b=>Ed a c b/\Ed a g b) (fun b q t=>⟨q,TE C b q t⟩);exact(x.keep ((SV z).weak fun b h=>h.1)).weak fun b h _=>h.2
def UH(O V cap:Nat)(T:List Az)(b:List St×PS)(w:World)(e:Ending)(a:World):Prop:=
 ∃v c,e=.returned v/\B8 (AY w.heap.size) a v c/\Di (AY w.heap.size) a c b.1/\PW O V cap T a b.2/\As O w a
section
variable{O V cap:Nat}{T:List Az}{w:World}{s:PS}{d:Int}{U:PS->St×PS}
theorem Xs{b:Nat}{a:List St}(h:Aj T AQ (A7 T U s).2=false):BQ T U (b+1) a s=(a++(A7 T U s).1,(A7 T U s).2):=by rw[BQ,h];rfl
theorem Xq{b:Nat}{a:List St}(h:Aj T AQ (A7 T U s).2=true):BQ T U (b+1) a s=BQ T U b (a++(A7 T U s).1) (Ab (A7 T U s).2):=by rw[BQ,h];rfl
theorem Xt(af:AR T)(au:KR O V cap T 191 d U)(aq:AM T U)(h:PW O V cap T w s)(ag:An T s):
 Ah 168 #[Al O,Aa d] w fun e a1=>UH O V cap T (AK T U s) w e a1:=by
 have c:=h.lt;have ak:=h.tlt;have a9:=h.size;have a5:0<T.length:=by unfold An at ag;omega
 obtain⟨ao,ah,al,am,an⟩:=info_parts Tryz.infoStmt;go_enter func168,ntmps168;go_wp2;go_loopw [5] (fun v wr=> ∃(a:PS)(j:List Value)(l:List St)(Q:Nat),wr.ownsRow w.heap.size 225 1 v j.length j/\Di (Ed w.heap.size v) wr j l/\PW O V cap T wr a/\As O w wr/\An T a/\T.length<=a.next+Q/\l.length<=a.next/\Hid (BQ T U Q l a=AK T U s)) (fun _ wr=>T.length -Kp O wr)
 case atStart=>exact⟨s,[],[],T.length,World.ownsRow_nil _ _ _ _,⟨rfl,fun bb v e az=>by simp at az⟩,h,As.refl _ _,ag,by omega,by simp,rfl⟩
 case round=>
  obtain⟨a,j,l,Q,A,J,q,g,n,a8,a3,E⟩:=hrel;have aj:=Gq q;have ai:=g.size;have a4:a.next<T.length:=n;obtain⟨H,rfl⟩: ∃H,Q=H+1:=⟨Q -1,by omega⟩;have ba:=J.1;have X:=A.lt;have F:=Ns q n AQ;cases p:Aj T AQ a with
  |true=>
   have i:A7 T U a=([],a):=by unfold A7;rw[p];rfl
   have ab:=AD af n p Ai;have t:Hid (BQ T U H l (Ab a)=AK T U s):=by show _=_;rw[<-E.out,Xq (by rw[i];exact p),i];simp
   rw[p] at F;have av:(Ab a).next=a.next+1:=rfl
   go_wp2_with(first|(go_at_call 187;refine F.mono ?_;rintro e C⟨rfl,f⟩)|(go_at_call 165;refine(EM (q.below f) n AQ p).mono ?_;rintro e I⟨rfl,S,ax⟩));have b:=(As.of_below (pb:=O) f).trans ax
   go_roundw
   case rel=>exact⟨Ab a,j,l,H,DY A b c,J.keep (IE b c),S,g.trans b,ab,by omega,by omega,t⟩
   case measure=>
    rw[Gq S,aj];omega
  |false=>
   rw[p] at F;cases Y:Aj T By a with
   |true=>
    have i:A7 T U a=([],a):=by unfold A7;rw[Y];simp
    have t:Hid (AK T U s=(l,a)):=by show _=_;rw[<-E.out,Xs (by rw[i];exact p),i];simp
    have G:=fun C(x:Ay wr C)=>Ns (q.below x) n By;rw[Y] at G;go_wp2_with(first|(go_at_call 187;refine(G _ f).mono ?_;rintro e I⟨rfl,r⟩)|(go_at_call 187;refine F.mono ?_;rintro e C⟨rfl,f⟩)|(go_at_call 165;refine(D2 ((q.below f).below r) n AQ p).mono ?_;rintro e bc⟨rfl,ar,ay⟩));go_ret;have b:=((As.of_below (pb:=O) f).trans (As.of_below r)).trans ay;refine⟨_,j,rfl,QM (DY A b c),?_⟩;rw[t.out];exact⟨(J.keep (IE b c)).weak (fun ap x _=>x.1),ar,g.trans b⟩
   |false=>
    have i:A7 T U a=([(U a).1],(U a).2):=by unfold A7;rw[p,Y];simp
    have G:=fun C(x:Ay wr C)=>Ns (q.below x) n By;rw[Y] at G;have K:=aq a n;have a7:=K.2;have a6:(U a).2.next<T.length:=K.1
    have ae:=fun I(S:PW O V cap T I a)=>au I a S n;cases M:Aj T AQ (U a).2 with
    |true=>
     have ab:=AD af K.1 M Ai;have av:(Ab (U a).2).next=(U a).2.next+1:=rfl
     have t:Hid (BQ T U H (l++[(U a).1]) (Ab (U a).2)=AK T U s):=by show _=_;rw[<-E.out,Xq (by rw[i];exact M),i]
     clear E i
     go_wp2_with(first
      |(go_at_call 187;refine(G _ f).mono ?_;rintro e I⟨rfl,r⟩;have b:=(As.of_below (pb:=O) f).trans (As.of_below r))
      |(go_at_call 187;refine F.mono ?_;rintro e C⟨rfl,f⟩)
      |(go_at_call 191;refine(ae _ ((q.below f).below r)).mono ?_;rintro e R⟨v4,rfl,u,Z,o⟩;have aw:=u.cells;have ac:=u.one)
      |(at_builtin;refine Gw rfl _ _ 115 rfl w.heap.size 225 ao _ 1 16 underlying115 ah al am an rfl (by decide) _ _ _ rfl ((DY (DY A b c) o c).alloc _) (Ac _ 0) 1 1 [v4] rfl rfl (cell_one_new _ _ _) ?ah1 ?ah63 ?ahby ?ahbase ?ahh
        case ah1=>intro a0 N;simp at N;subst N;exact ac
        case ah63=>unfold maxLen;omega
        case ahby=>omega
        case ahbase=>have:=b.size;have:=o.size;simp;omega
        intro B D L y P;have m:Aside (D.ownsRow w.heap.size 225 1 B (j.length+1) (j++[v4])/\(R.alloc (.cells #[v4] 225)).grownBy D u5.ownBlock/\(B.ownBlock=u5.ownBlock\/ ∀k,B.ownBlock=some k->(R.alloc (.cells #[v4] 225)).heap.size<=k)):=⟨L,y,P⟩;have aa:PW O V cap T D (U a).2:=(Z.alloc _).grown y (fun k g=>(X k g).1) c ak
        clear L y P)
      |(go_at_call 165;refine(EM aa K.1 AQ M).mono ?_;rintro e a2⟨rfl,W,z⟩))
     have ad:=He ((g.trans (b.trans o)).alloc _) m.out.2.1 (fun k g=>(X k g).1)
     go_roundw
     case rel=>
      exact⟨Ab (U a).2,j++[v4],l++[(U a).1],H,by rw[AG];exact DY m.out.1 z c,
       (Di.grow c ai J A b o u _ m.out.2.1 m.out.2.2).keep (IE z c),W,ad.trans z,ab,by omega,by rw[AG];simp;omega,t⟩
     case measure=>
      rw[Gq W,aj];omega
    |false=>
     have t:Hid (AK T U s=(l++[(U a).1],(U a).2)):=by show _=_;rw[<-E.out,Xs (by rw[i];exact M),i]
     clear E i
     go_wp2_with(first
      |(go_at_call 187;refine(G _ f).mono ?_;rintro e I⟨rfl,r⟩;have b:=(As.of_below (pb:=O) f).trans (As.of_below r))
      |(go_at_call 187;refine F.mono ?_;rintro e C⟨rfl,f⟩)
      |(go_at_call 191;refine(ae _ ((q.below f).below r)).mono ?_;rintro e R⟨v4,rfl,u,Z,o⟩;have aw:=u.cells;have ac:=u.one)
      |(at_builtin;refine Gw rfl _ _ 115 rfl w.heap.size 225 ao _ 1 16 underlying115 ah al am an rfl (by decide) _ _ _ rfl ((DY (DY A b c) o c).alloc _) (Ac _ 0) 1 1 [v4] rfl rfl (cell_one_new _ _ _) ?bh1 ?bh63 ?bhby ?bhbase ?bhh
        case bh1=>intro a0 N;simp at N;subst N;exact ac
        case bh63=>unfold maxLen;omega
        case bhby=>omega
        case bhbase=>have:=b.size;have:=o.size;simp;omega
        intro B D L y P;have m:Aside (D.ownsRow w.heap.size 225 1 B (j.length+1) (j++[v4])/\(R.alloc (.cells #[v4] 225)).grownBy D u5.ownBlock/\(B.ownBlock=u5.ownBlock\/ ∀k,B.ownBlock=some k->(R.alloc (.cells #[v4] 225)).heap.size<=k)):=⟨L,y,P⟩;have aa:PW O V cap T D (U a).2:=(Z.alloc _).grown y (fun k g=>(X k g).1) c ak
        clear L y P)
      |(go_at_call 165;refine(D2 aa K.1 AQ M).mono ?_;rintro e a2⟨rfl,W,z⟩))
     go_ret;have ad:=He ((g.trans (b.trans o)).alloc _) m.out.2.1 (fun k g=>(X k g).1);refine⟨_,j++[v4],rfl,QM (by rw[AG];exact DY m.out.1 z c),?_⟩;rw[t.out];exact⟨((Di.grow c ai J A b o u _ m.out.2.1 m.out.2.2).keep (IE z c)).weak (fun ap x _=>x.1),W,ad.trans z⟩
variable{k:Nat}
theorem Air(h:PW O V cap T w s)(c:An T s)(b:14<d):
 Ah 191 #[Al O,Aa d] w fun e g=>Po O V cap T (CV T 0 s) w e g:=by
 go_enter func191,ntmps191;go_wp2_with(go_at_call 204;refine(Aaa h c d b).mono ?_;rintro e i⟨rfl,a,f⟩);go_ret;exact⟨_,rfl,.nil,a,f⟩
theorem Ais(h:PW O V cap T w s)(f:An T s)(p:d<=14)(a:AN T .name s=true)(o:KR O V cap T 205 d (FR T (EQ T k))):
 Ah 191 #[Al O,Aa d] w fun e r=>Po O V cap T (CV T (k+1) s) w e r:=by
 have j:Hid (CV T (k+1) s=FR T (EQ T k) s):=by show _=_;rw[CV];simp[a]
 have g:(Ad T s).kind.p=1:=by have:=MW (T:=T) s;rw[a] at this;simpa using this
 have t:=Nx;have b:=Hz h f;rw[g] at b;clear a g;go_enter func191,ntmps191;go_wp2_with(first|(go_at_call 204;refine Aq (O7 d p _ O) ?_)|(go_at_call 145;refine b.mono ?_;rintro e v⟨rfl,c⟩;have l:=h.below c)|(go_at_call 205;refine(o _ _ l f).mono ?_;rintro e x⟨u,rfl,n,m,q⟩));go_ret;refine⟨_,rfl,?_⟩;rw[j.out];have i:=As.of_below (pb:=O) c;exact⟨n.up i.size,m,i.trans q⟩
theorem Ait(B:AR T)(h:PW O V cap T w s)(a:An T s)(a4:0<=d)(au:d<=14)(M:AN T .name s=false)(am:KR O V cap T 206 d (Dk T (EQ T k) (CV T k)))
 (ab:Fk O V cap T 207 (d+1) (EQ T k))(an:AM T (EQ T k))(Z:KR O V cap T 191 (d+1) (CV T k))(Y:AM T (CV T k)):
 Ah 191 #[Al O,Aa d] w fun e az=>Po O V cap T (CV T (k+1) s) w e az:=by
 obtain⟨G,C⟩: ∃G,CV T (k+1) s=G:=⟨_,rfl⟩;rw[C];rw[CV,Ae (by rw[M];simp)] at C;have o:Hid (_=G):=C;have a5:((Ad T s).kind.p==1)=false:=by rw[MW];exact M
 have a1:=Nx;have X:=Hz h a;have N:=h.lt;have y:=fun U(av:U≠[]) ax=>AD B a (f:=bs U) ax (I6 _ av);clear M C;go_enter func191,ntmps191;go_upto_region 5 with(first|(go_at_call 204;refine Aq (O7 d au _ O) ?_)|(go_at_call 145;refine X.mono ?_;rintro e a7⟨rfl,K⟩));have H:=h.below K;have P:=As.of_below (pb:=O) K;clear X K;cases g:Aj T IF s with
 |true=>
  have c:=y _ (by simp) g;go_wp2_with(first|(go_at_call 206;refine(am _ _ ao c).mono ?_;rintro e aj⟨ay,rfl,A,m,E⟩)|(go_at_call 165;refine(EM H a IF g).mono ?_;rintro e r⟨rfl,ao,f⟩));go_ret;refine⟨_,rfl,?_⟩;rw[<-o.out,Ag g];have b:=P.trans f;exact⟨A.up b.size,m,b.trans E⟩
 |false=>
  go_upto_region 7 with(go_at_call 165;refine(D2 H a IF g).mono ?_;rintro e a8⟨rfl,I,ae⟩);have Q:=P.trans ae;clear H P ae;cases i:Aj T IH s with
  |true=>
   have c:=y _ (by simp) i;have D:=(an (Ab s) c).1;have aw:=(Ch B (f:=Eh) Ai D).1;go_wp2_with(first|(go_at_call 207;refine(ab _ _ ap c).mono ?_;rintro e aj⟨ay,rfl,A,m,E⟩;have a3:=A.cells)|(go_at_call 144;refine(F4 m D Eh).mono ?_;rintro e a0⟨rfl,u,L⟩)|(go_at_call 191;refine(Z _ _ u aw).mono ?_;rintro e F⟨ai,rfl,x,j,q⟩;have ac:=x.cells)|(go_at_call 165;refine(EM I a IH i).mono ?_;rintro e r⟨rfl,ap,f⟩));go_ret;refine⟨_,rfl,?_⟩;rw[<-o.out,Ae (by simp[g]),Ag i];have b:=Q.trans f;exact⟨.loop ((A.up b.size).keep ((L.trans q).keepQ N)) (x.up ((b.trans E).trans L).size),j,((b.trans E).trans L).trans q⟩
  |false=>
   go_upto_region 11 with(go_at_call 165;refine(D2 I a IH i).mono ?_;rintro e aj⟨rfl,m,af⟩);have R:=Q.trans af;clear I Q af;cases l:Aj T Bc s with
   |true=>
    have c:=y _ (by simp) l;have D:=(JQ B Y (Ab s) c).1;go_wp2_with(first|(go_at_call 168;refine(Xt B Z Y aq c).mono ?_;rintro e F⟨ai,a6,rfl,aa,al,j,q⟩;have ac:=aa.cells)|(go_at_call 144;refine(F4 j D By).mono ?_;rintro e ak⟨rfl,v,n⟩)|(go_at_call 165;refine(EM m a Bc l).mono ?_;rintro e r⟨rfl,aq,f⟩));go_ret;refine⟨_,rfl,?_⟩;rw[<-o.out,Ae (by simp[g]),Ae (by simp[i]),Ag l];have b:=R.trans f;have hF: ∀z,AY r.heap.size z->z<F.heap.size->AY w.heap.size z:=fun z a2 _=>by unfold AY at*;have:=b.size;omega
    have W:=(al.weak hF).keep (n.keepQ N);exact⟨.block ((aa.weak hF).keep (n.keepQ N)) W.1 W.2,v,(b.trans q).trans n⟩
   |false=>
    go_upto_region 15 with(go_at_call 165;refine(D2 m a Bc l).mono ?_;rintro e a0⟨rfl,u,ag⟩);have S:=R.trans ag;clear m R ag;cases p:Aj T II s with
    |true=>
     have c:=y _ (by simp) p;go_wp2_with(first|(go_at_call 207;refine(ab _ _ ar c).mono ?_;rintro e F⟨ai,rfl,x,j,q⟩;have ac:=x.cells)|(go_at_call 165;refine(EM u a II p).mono ?_;rintro e r⟨rfl,ar,f⟩));go_ret;refine⟨_,rfl,?_⟩;rw[<-o.out,Ae (by simp[g]),Ae (by simp[i]),Ae (by simp[l]),Ag p];have b:=S.trans f;exact⟨.write (x.up b.size),j,b.trans q⟩
    |false=>
     go_upto_region 17 with(go_at_call 165;refine(D2 u a II p).mono ?_;rintro e F⟨rfl,j,ah⟩);have ad:=S.trans ah;clear u S ah;cases t:Aj T IG s with
     |true=>
      have c:=y _ (by simp) t;go_wp2_with(first|(go_at_call 189;refine(LV J c).mono ?_;rintro e ak⟨rfl,v,n⟩)|(go_at_call 165;refine(EM j a IG t).mono ?_;rintro e r⟨rfl,J,f⟩));go_ret;refine⟨_,rfl,?_⟩;rw[<-o.out,Ae (by simp[g]),Ae (by simp[i]),Ae (by simp[l]),Ae (by simp[p]),Ag t];exact⟨.read _ _,v,(ad.trans f).trans n⟩
     |false=>
      go_wp2_with(first|(go_at_call 146;refine(MI J a 4).mono ?_;rintro e ak⟨rfl,v,n⟩)|(go_at_call 165;refine(D2 j a IG t).mono ?_;rintro e r⟨rfl,J,f⟩));go_ret;refine⟨_,rfl,?_⟩;rw[<-o.out,Ae (by simp[g]),Ae (by simp[i]),Ae (by simp[l]),Ae (by simp[p]),Ae (by simp[t])];exact⟨.nil,v,(ad.trans f).trans n⟩
theorem ZH(a:AR T): ∀(k:Nat)(d:Int),d+k=15->0<=d->KR O V cap T 191 d (CV T k)
 |0,d,l,_=>fun _ _ h b=>Air h b (by omega)
 |k+1,d,l,c=>fun w s h b=>by
  have j:=ZH a k (d+1) (by omega) (by omega);have g:=K7 a k;have f:Fk O V cap T 207 (d+1) (EQ T k):=Acn a k (d+1) (by omega) (by omega);have e:=Tv a k;cases i:AN T .name s with
  |true=>exact Ais h b (by omega) i (Afd a f e c (by omega))
  |false=>exact Ait a h b c (by omega) i (Abv a f e j g c (by omega)) f e j g
end
def E4(b:List A8):List Value:=b.flatMap fun a=>[.string a.1,Aa a.2]
theorem X7(b:List A8):(E4 b).length=b.length*2:=by
 induction b with
 |nil=>rfl
 |cons a c d=>
  have e:E4 (a::c)=[.string a.1,Aa a.2]++E4 c:=rfl;rw[e,AG,d,Bg];simp;omega
theorem X5(a b:List A8):E4 (a++b)=E4 a++E4 b:=by simp[E4]
theorem Afg(c:List A8): ∀b∈E4 c,b.oneCell'=true:=by intro b a;simp only[E4,List.mem_flatMap,C0,I0,Jl] at a;obtain⟨d,_,rfl|rfl⟩:=a<;>rfl
def Dt(Q:AW)(w:World)(v:Value)(b:List A8):Prop:=
 (v=Aw/\b=[])\/ ∃a cap,v=Ar a b.length cap/\Q a/\a<w.heap.size/\ ∀c d,(E4 b)[c]? =some d->w.cell? (Ac a c)=some d
theorem Dt.keep{Q:AW}{w f:World}{v:Value}{e:List A8}(h:Dt Q w v e)(b:BR Q w f):Dt Q f v e:=by
 rcases h with h|⟨a,cap,j,d,c,g⟩
 ·exact .inl h
 ·refine .inr ⟨a,cap,j,d,CF c b.1,fun k l i=> ?_⟩;rw[World.cell?_of_block (w:=w) (b.2 a d c)];exact g k l i
theorem Dt.weak{Q Q':AW}{w:World}{v:Value}{c:List A8}(h:Dt Q w v c)(f: ∀a,Q a->a<w.heap.size->Q' a):Dt Q' w v c:=by
 rcases h with h|⟨a,cap,g,e,b,d⟩
 ·exact .inl h
 ·exact .inr ⟨a,cap,g,f a e b,b,d⟩
theorem Dt.cells{Q:AW}{w:World}{v:Value}{c:List A8}(h:Dt Q w v c): ∀a,v=.agg a->False:=by intro a b;rcases h with⟨rfl,_⟩|⟨d,cap,rfl,_⟩<;>cases b
theorem OP{w:World}{base:Nat}{e:TypeId}{v:Value}{a:List A8}(h:w.ownsRow base e 2 v a.length (E4 a)):Dt (AY base) w v a:=by
 rcases h.2 with⟨rfl,g⟩|⟨b,cap,Ad,rfl,i,j,k,_,_,l⟩
 ·exact .inl ⟨rfl,Mi g⟩
 ·refine .inr ⟨b,cap,rfl,i,(Ju.1 j).1,fun f m c=> ?_⟩;have d:f<(E4 a).length:=(BH.1 c).1;rw[X7] at d;have:=h.cellAt (g:=b) (n:=a.length) (cap:=cap) f d;rw[this];exact c
inductive Fu(Q:AW)(w:World):Value->Gl->Prop
 |var (n:Af) (p:Nat):Fu Q w (.iface 212 (.agg #[.string n,Aa p])) (.var n p)
 |arr (n:Af) (p size at_:Nat):Fu Q w (.iface 215 (.agg #[.string n,Aa p,Aa size,Aa at_])) (.arr n p size at_)
 |proc (r:Ro) {vp vl vb:Value} {vs:List Value}:Dt Q w vp r.params->Dt Q w vl r.locals->B8 Q w vb vs->Di Q w vs r.body->Fu Q w (.iface 220 (.agg #[.string r.name.1,Aa r.name.2,vp,vl,vb])) (.proc r)
 |func (r:Ro) {vp vl vb:Value} {vs:List Value}:Dt Q w vp r.params->Dt Q w vl r.locals->B8 Q w vb vs->Di Q w vs r.body->Fu Q w (.iface 222 (.agg #[.string r.name.1,Aa r.name.2,vp,vl,vb])) (.func r)
theorem Fu.keep{Q:AW}{w j:World}{v:Value}{e:Gl}(h:Fu Q w v e)(a:BR Q w j):Fu Q j v e:=by
 cases h with
 |var g p=>exact .var g p
 |arr g p s k=>exact .arr g p s k
 |proc i b c d f=>exact .proc i (b.keep a) (c.keep a) (d.keep a) (f.keep a)
 |func i b c d f=>exact .func i (b.keep a) (c.keep a) (d.keep a) (f.keep a)
theorem Fu.weak{Q Q':AW}{w:World}{v:Value}{e:Gl}(h:Fu Q w v e)(a: ∀b,Q b->b<w.heap.size->Q' b):Fu Q' w v e:=by
 cases h with
 |var i p=>exact .var i p
 |arr i p s k=>exact .arr i p s k
 |proc j c d f g=>exact .proc j (c.weak a) (d.weak a) (f.weak a) (g.weak a)
 |func j c d f g=>exact .func j (c.weak a) (d.weak a) (f.weak a) (g.weak a)
section
variable{Q:AW}{w:World}{v:Value}{e:Gl}(h:Fu Q w v e)
include h
theorem Fu.cells: ∀a,v=.agg a->False:=by cases h<;>(intro a b;cases b)
theorem Fu.one:v.oneCell'=true:=by cases h<;>rfl
end
section
variable{O V cap:Nat}{T:List Az}{w:World}{s:PS}
theorem U8(a:AR T)(h:PW O V cap T w s)(g:An T s):
 Ah 143 #[Al O] w fun e v=>UH O V cap T (BT T s) w e v:=by
 have k:=h.lt;have i:=(Ch a (f:=Bc) Ai g).1;have r:=(JQ a (K7 a 14) _ i).1;have n:=fun f(c:PW O V cap T f (Am T Bc s))=>Xt a (ZH a 14 1 (by omega) (by omega)) (K7 a 14) c i;have l:Hid (BT T s=((AK T (CV T 14) (Am T Bc s)).1,Am T By (AK T (CV T 14) (Am T Bc s)).2)):=rfl;generalize AK T (CV T 14) (Am T Bc s)=z at*;go_enter func143,ntmps143;go_wp2_with(first|(go_at_call 144;refine(F4 o r By).mono ?_;rintro e B⟨rfl,p,d⟩)|(go_at_call 144;refine(F4 h g Bc).mono ?_;rintro e f⟨rfl,c,j⟩)|(go_at_call 168;refine(n _ c).mono ?_;rintro e x⟨A,u,rfl,q,m,o,t⟩));go_ret;refine⟨_,u,rfl,?_⟩;rw[l.out];have hF: ∀b,AY f.heap.size b->b<x.heap.size->AY w.heap.size b:=fun b y _=>by unfold AY at*;have:=j.size;omega
 exact⟨(q.weak hF).keep (d.keepQ k),(m.weak hF).keep (d.keepQ k),p,(j.trans t).trans d⟩
theorem Afr(h:PW O V cap T w s)(i:An T s):
 Ah 203 #[Al O,Aa 2] w fun e b=> ∃k j,e=.returned (.agg #[Aa k,.string j,Aa (BV T s).1.1,Aa (BV T s).1.2])/\PW O V cap T b (BV T s).2/\As O w b:=by
 cases a:AN T .number s with
 |true=>
  have e:BV T s=(((Ad T s).val,(Ad T s).pos),Ab s):=by simp[BV,a]
  rw[e];have g:(Ad T s).kind.p=2:=by have:=P4 (T:=T) s;rw[a] at this;simpa using this
  exact(Ui h i 2 g).mono fun e b⟨c,d,f⟩=>⟨_,_,c,d,f⟩
 |false=>
  have e:BV T s=((0,0),AI T 4 s):=by simp[BV,a]
  rw[e];have g:((Ad T s).kind.p !=2)=true:=by have:=P4 (T:=T) s;rw[a] at this;simp at this;simpa using this
  exact(Aah h i 2 g).mono fun e b⟨c,d,f⟩=>⟨_,_,c,d,f⟩
def AaH(O V cap:Nat)(T:List Az)(b:Gl×PS)(w:World)(e:Ending)(a:World):Prop:=
 ∃v,e=.returned v/\Fu (AY w.heap.size) a v b.1/\PW O V cap T a b.2/\As O w a
theorem WD(g:AR T)(h:PW O V cap T w s)(p:An T s):
 Ah 188 #[Al O] w fun e E=>AaH O V cap T (AE T s) w e E:=by
 have G:=h.lt;have n:=LV h p;have i:=(Gn g s p).1;cases b:Aj T BL (Ap T s).2 with
 |true=>
  have q:=AD g i b Ai;have v:=(OC g _ q).1;have t:=fun m(a:PW O V cap T m (Ab (Ap T s).2))=>Afr a q;have d:Hid (AE T s=(.arr (Ap T s).1.1 (Ap T s).1.2 (BV T (Ab (Ap T s).2)).1.1 (BV T (Ab (Ap T s).2)).1.2,Am T Cn (BV T (Ab (Ap T s).2)).2)):=by show _=_;unfold AE;rw[b];rfl
  generalize BV T (Ab (Ap T s).2)=L at*;generalize(Ap T s).1.1=A at*;generalize(Ap T s).1.2=B at*;generalize(Ap T s).2=D at*;go_enter func188,ntmps188;go_wp2_with(first|(go_at_call 189;refine n.mono ?_;rintro e m⟨rfl,a,j⟩;have l:=a.lt)|(go_at_call 165;refine(EM (a.alloc _) i BL b).mono ?_;rintro e F⟨rfl,f,c⟩)|(go_at_call 203;refine(t _ f).mono ?_;rintro e N⟨I,M,rfl,o,x⟩;have r:=c.trans x;have y:=o.lt)|(go_at_call 144;refine(F4 (o.alloc _) v Cn).mono ?_;rintro e P⟨rfl,u,k⟩;obtain⟨C,q1,z⟩:=((r.alloc _).trans k).new l;obtain⟨J,K,H⟩:=k.new y));go_ret;refine⟨_,rfl,?_⟩;rw[d.out];exact⟨.arr _ _ _ _,u,(((j.alloc _).trans r).alloc _).trans k⟩
 |false=>
  have d:Hid (AE T s=(.var (Ap T s).1.1 (Ap T s).1.2,(Ap T s).2)):=by show _=_;unfold AE;rw[b];rfl
  generalize(Ap T s).1.1=A at*;generalize(Ap T s).1.2=B at*;generalize(Ap T s).2=D at*;go_enter func188,ntmps188;go_wp2_with(first|(go_at_call 189;refine n.mono ?_;rintro e m⟨rfl,a,j⟩;have l:=a.lt)|(go_at_call 165;refine(D2 (a.alloc _) i BL b).mono ?_;rintro e F⟨rfl,f,c⟩;obtain⟨C,q1,z⟩:=c.new l));go_ret;refine⟨_,rfl,?_⟩;rw[d.out];exact⟨.var _ _,f,(j.alloc _).trans c⟩
end
