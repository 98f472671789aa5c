/- Plain: what was declared, once all is declared. The referenc -/
import Derived.Test.YtklobognaldjpaaGreatCRx46
import Derived.Test.YtklobognaldjpaaGreatCLk13
set_option maxRecDepth 1000000
set_option maxHeartbeats 8000000
namespace Go.Proofs.YtklobognaldjpaaGreat
open Go.Proofs.Tryz
open Go.RowKit
structure DK(T:List Az)(G:List GC)(V:List Gl):Prop where
 sy:G.map GC.sy=(AO Bv V).1.glob
 len:G.length=V.length
 var: ∀g∈G,g.kind=0-> ∃a cap,g.vv=.slice a 1 cap
 rou: ∀(k:Nat)(g:GC),G[k]? =some g->g.kind=2\/g.kind=3-> ∃(E:Ao)(r:Ro),NY T E g.kind r g/\E.glob=(G.map GC.sy).take k/\V[k]? =some (if g.kind=3 then .func r else .proc r)
theorem Zc: ∀(V:List Gl)(g:Nat)(c:Bool)(a:Ro)(b:Af),V[g]? =some (if c then .func a else .proc a)->AS a.name.1 b=true->(∀j e,j<g->V[j]? =some e->AS (Ff e).name b=false)->DL V b=some (c,a)
 |[],g,c,a,b,d,_,_=>by simp at d
 |e::k,0,c,a,b,d,h,_=>by
  have d:e=(if c then .func a else .proc a):=FH d;subst d;cases c
  ·show DL (.proc a::k) b=_;rw[DL,Ag h]
  ·show DL (.func a::k) b=_;rw[DL,Ag h]
 |e::k,g+1,c,a,b,d,h,n=>by
  have m:=n 0 e (by omega) rfl;have i:=Zc k g c a b d h (fun j q r f=>n (j+1) q (by omega) f);cases e with
  |var o p=>rw[DL];exact i;all_goals(intro _ f;cases f)
  |arr o p l t=>rw[DL];exact i;all_goals(intro _ f;cases f)
  |proc l=>rw[DL,Ae (by rw[show AS l.name.1 b=false from m];simp)];exact i
  |func l=>rw[DL,Ae (by rw[show AS l.name.1 b=false from m];simp)];exact i
section
variable{wb tb cap B:Nat}{T:List Az}{c:Nat}{ins:Int}{X:Value}{G:List GC}{vh:Value}{H:List GC}{w:World}{vi vo:Value}{S:RS}{V:List Gl}
theorem Ac4(t:RA wb tb cap B T c ins X G vh H w vi vo S)(U:S.glob=V.map Ff)(y:DK T G V):GS T V G:=by
 intro d a n Y;obtain⟨o,h,g,u,W⟩:=y.rou d a n Y;have Z:=(BH.1 n).1;have ab: ∀(b:Nat)(j:GC)(e:Gl),G[b]? =some j->V[b]? =some e->(Ff e).name=j.name:=fun b j e i l=>by obtain⟨ag,s,I,_⟩:=t.gv.2 b j i;unfold RS.gs at s;rw[U,Mn,CC,l] at s;have ah:((Ff e).name,(Ff e).vals)=ag:=FH s;rw[<-ah] at I;exact I
 have E:h.name.1=a.name:=(C4 Sy.name g.sy).symm;have F:(G.map GC.sy)[d]? =some a.sy:=by rw[CC,n];rfl
 have v:o.glob.length=d:=by rw[u,It,BF];omega
 obtain⟨af,K,L,M,N,O⟩:=g.bdy;refine⟨h,_,af,fun m f=> ?_,E,g.cs,g.nd,K,L,M,N,O,g.look,fun J x=>⟨⟨⟨(G.map GC.sy).drop (d+1),?_⟩,y.var,⟨if a.own then[⟨a.name,3,0⟩] else[],?_,fun j i=> ?_⟩,fun j i=> ?_⟩,fun m f=> ?_⟩⟩
 ·refine Zc V d (decide (a.kind=3)) h m (by rw[W];by_cases q:a.kind=3<;>simp[q]) (by unfold AS;rw[E,f];simp) (fun b e A l=> ?_);have C:b<G.length:=by omega
  have P:=ab b _ e (Bb C) l;unfold AS;rw[P];cases p:(G[b].name.toList==m.toList) with
  |false=>rfl
  |true=>
   have:=t.nd.1.1 b d G[b] a (Bb C) n ((eq_of_beq p).trans f);omega
 ·show G.map GC.sy=(o.glob++[⟨h.name.1,a.kind,h.params.length⟩])++(G.map GC.sy).drop (d+1);rw[u,<-g.sy];have ai:d<(G.map GC.sy).length:=by rw[BF];exact Z
  have p:(G.map GC.sy)[d]=a.sy:=(BH.1 F).2;rw[DO,<-p];show _=_++((G.map GC.sy)[d]::(G.map GC.sy).drop (d+1));rw[UA,Rv]
 ·rw[x];unfold GC.sys;rw[g.cs]
 ·split at i
  ·rename_i r;rw[Hk.1 i];refine⟨rfl,a.sy,Ct F,?_,rfl⟩;unfold GC.own at r;simp at r;exact r.1
  ·cases i
 ·obtain⟨k,_,rfl⟩:=CD.1 i;rfl
 ·unfold Ao.isRes at f;dsimp only at f;rw[v] at f;have R:((o.glob++[(⟨h.name.1,a.kind,h.params.length⟩:Sy)]).getD d default)=a.sy:=by rw[Dg,CS (by omega),v,I2,<-g.sy];rfl
  rw[R] at f;simp only[NG,PE] at f;obtain⟨⟨q,ac⟩,z⟩:=f;have D:a.name.toList=m.toList:=eq_of_beq ac
  have ad:a.own=true:=by
   unfold GC.own;rw[g.cs];rw[V0] at z
   have Q:(h.cells.any fun k=>AS k a.name)=(h.cells.any fun k=>AS k m):=by
    congr 1
    funext k
    unfold AS;rw[D]
   rw[Q,z,show a.kind=3 from q];rfl
  have aa:(⟨a.name,3,0⟩:Sy)∈J.map GC.sy:=by rw[x];unfold GC.sys;rw[ad];simp
  obtain⟨e,l,ae⟩:=CD.1 aa;obtain⟨b,A⟩:=Is l;exact⟨b,e,A,by rw[show e.name=a.name from C4 Sy.name ae];exact D⟩
end
def NX(wb:Nat)(w:World)(S:RS):Prop:=
 ∃vo,w.cell? (Ac wb 11)=some (.bool (S.stop !=some 0))/\w.cell? (Ac wb 12)=some (Aa ((S.stop.getD 0:Nat):Int))/\w.cell? (Ac wb 13)=some vo/\w.cell? (Ac wb 14)=some (Aa (S.used:Nat))/\w.ownsRow (wb+1) 3 1 vo S.out.length (S.out.map (.int .i64))/\ ∀o,w.frozen? (Ac wb o)=false
section
variable{wb tb cap B:Nat}{T:List Az}{X:Value}{G:List GC}{w:World}{vi vo:Value}{S:RS}{V:List Gl}
theorem Tm: ∀(V:List Gl)(a:Ao),a.here=[]->a.inside=none->(AO a V).2=none->(AO a V).1.here=[]/\(AO a V).1.inside=none
 |[],a,c,d,_=>by rw[AO];exact⟨c,d⟩
 |e::k,a,c,d,f=>by
  rw[AO] at f⊢;obtain⟨g,j⟩:=Bq f
  have h:(Ce a e).1.here=[]/\(Ce a e).1.inside=none:=by
   cases e with
   |var b p=>
    have:=(MH (show(Be a false b p 0 0).2=none from g)).2;rw[show(Ce a (.var b p)).1=_ from this];exact⟨c,d⟩
   |arr b p i t=>
    have:=(MH (Bq (show((Be a false b p 1 0).2.or (F1 i t))=none from g)).1).2;rw[show(Ce a (.arr b p i t)).1=_ from this];exact⟨c,d⟩
   |proc l=>exact⟨rfl,rfl⟩
   |func l=>exact⟨rfl,rfl⟩
  exact Tm k _ h.1 h.2 j
theorem Abm(U:AR T)(J: ∀t∈T,t.val<=2147483647)(A:Cj T)(h:RA wb tb cap B T 0 (-1) X G Aw [] w vi vo S)(x:S.glob=V.map Ff)(O:S.stop=none)(j:DK T G V)(M:(AO Bv V).2=none){s:PS}(L:An T s)(N:Av T s)(y:(AK T (AL T none 14) s).2.code=0)(C:Bz (AO Bv V).1 (AK T (AL T none 14) s).1=none):
 Ah 95 #[Al wb,Aa (s.next:Nat)] w fun g F=>g=.returned A6/\Hid (NX wb F (Dp B (Ef B V 30) (AK T (AL T none 14) s).1 S)/\Below wb w F):=by
 obtain⟨z,K⟩:=Tm V Bv rfl rfl M;have u:Fj (AO Bv V).1 G []:=⟨⟨[],by rw[j.sy,IY]⟩,j.var,⟨[],by rw[z];rfl,fun P k=>by cases k⟩,fun P k=>by rw[z] at k;cases k⟩;have v:J9 (AO Bv V).1 []:=fun W p=>by unfold Ao.isRes at p;rw[K] at p;cases p
 have f:=Qc U A (Gp U none 14) (Ev U none 14) ((Xk (gl:=V) U J A 30 0 rfl (-1) X G Aw [] _ True u (fun _=>⟨v,Ac4 h x j⟩) 14 1 (by omega) (by omega)).2) h L true N y C (fun _=>trivial);rw[Y9 O] at f;have H:Hid (RA wb tb cap B T 0 (-1) X G Aw [] w vi vo S):=h;clear h u v C y j x;unfold SP at f;generalize Dp B (Ef B V 30) (AK T (AL T none 14) s).1 S=e at*;go_enter func95,ntmps95;go_upto_region 1 with(go_at_call 122;refine f.mono ?_;rintro g b⟨rfl,l⟩);obtain⟨Z,E,a,n⟩:=l.out;have Y:b.cell? (Ac wb 1)=some (Aa 2):=a.cel 1 _ rfl;have D:b.cell? (Ac wb 10)=some (.bool e.stop.isSome):=a.cel 10 _ rfl;have q:b.cell? (Ac wb 11)=some (.bool (VK e.stop)):=a.cel 11 _ rfl;have Q:=a.frz 11;have r:=Kf.low H.out n;cases c:e.stop with
 |none=>
  rw[c] at D q;have m:Hid (NX wb (b.setCell ⟨wb,11,none⟩ (.bool true)) e/\Below wb w (b.setCell ⟨wb,11,none⟩ (.bool true))):=by have i:=a.cel.set (o:=11) (by simp[Dy]) (.bool true);have I:=i 12 _ rfl;refine⟨⟨E,by rw[c];exact i 11 _ rfl,I,i 13 _ rfl,i 14 _ rfl,Cq a.oro fun d g=>Below.heap_setCell _ _ _ _ (by have:=(a.oro.lt d g).1;show d≠wb;omega),fun o=>by rw[Cu];exact a.frz o⟩,r.trans ⟨rfl,rfl,rfl,by simp[World.setCell],fun d R=>Below.heap_setCell _ _ _ _ (by show d≠wb;omega)⟩⟩
  clear a n l f c;go_wp2_with fail;refine bodyPost_ret (v:=.tuple #[]) (by simp[results,results95,go_sem]) rfl ?_;exact⟨rfl,m.out⟩
 |some d=>
  rw[c] at D;have m:Hid (NX wb b e/\Below wb w b):=⟨⟨E,by rw[q,c];cases d<;>rfl,a.cel 12 _ rfl,a.cel 13 _ rfl,a.cel 14 _ rfl,a.oro,a.frz⟩,r⟩;clear a n l f c q;go_wp2_with fail;refine bodyPost_ret (v:=.tuple #[]) (by simp[results,results95,go_sem]) rfl ?_;exact⟨rfl,m.out⟩
end
section
variable{T:List Az}(U:AR T)
include U
theorem ZE{s:PS}(d:Av T s):Av T (AE T s).2:=by
 have a:=In U s d;unfold AE;split
 ·rename_i c;have b:=Cp U a.1 Ai c;exact Kz U (OU U _ (A4 b)).1 Ai
 ·exact a.1
theorem ZF: ∀(b:Nat)(O:List Gl)(s:PS),Av T s->Av T (Bw T b O s).2
 |0,O,s,a=>by rw[Bw];exact a
 |b+1,O,s,a=>by
  rw[Bw];split
  ·rename_i c;exact ZF b _ _ (ZE U (A4 (Cp U a Ai c)))
  ·exact a
theorem ZG{s:PS}(a:Av T s):Av T (BP T s).2:=Kz U (ZF U _ _ _ (ZE U a)) Ai
theorem QT{s:PS}(e:Av T s):Av T (AZ T s).2:=by have a:=(In U s e).1;have b:=(TZ U _ (Kz U a (show Bl.toList≠[] from Ai))).1;have c:=(QO U T.length [] _ (Kz U b (show AJ.toList≠[] from Ai))).1;have d:=(JZ U (OV U 14) _ (Kz U c (show Bc.toList≠[] from Ai))).1;exact Kz U (Kz U d Ai) Ai
theorem SB{d:Nat}{O:List Gl}{s:PS}(f:Av T s)(b:(BC T d O s).2.code=0):s.code=0:=by
 by_cases e:s.code=0
 ·exact e
 ·have a: ∀c:List UInt8,c≠[]->Aj T (bs c) s=false:=fun c a=>IT U f e (I6 _ a);cases d with
  |zero=>rw[BC] at b;exact b
  |succ d=>
   rw[BC,Ae (by rw[a _ (by simp)];simp),Ae (by rw[a _ (by simp)];simp),Ae (by rw[a _ (by simp)];simp)] at b;exact b
end
section
variable{T:List Az}{G t:List GC}{O V:List Gl}
theorem LF: ∀(c:Nat)(O:List Gl)(s:PS),∃a,(BC T c O s).1=O++a
 |0,O,s=>⟨[],by rw[BC];simp⟩
 |c+1,O,s=>by
  rw[BC];split
  ·obtain⟨a,b⟩:=LF c (O++(BP T (Ab s)).1) (BP T (Ab s)).2;exact⟨(BP T (Ab s)).1++a,by rw[b];simp⟩
  ·split
   ·obtain⟨a,b⟩:=LF c (O++[.proc (AZ T (Ab s)).1]) (AZ T (Ab s)).2;exact⟨.proc (AZ T (Ab s)).1::a,by rw[b];simp⟩
   ·split
    ·obtain⟨a,b⟩:=LF c (O++[.func (AZ T (Ab s)).1]) (AZ T (Ab s)).2;exact⟨.func (AZ T (Ab s)).1::a,by rw[b];simp⟩
    ·exact⟨[],by simp⟩
theorem DK.more(e:DK T G O)(o:(AO Bv (O++V)).2=none)(r:(G++t).map GC.sy=(AO (AO Bv O).1 V).1.glob)(p:t.length=V.length)(s: ∀a∈t,a.kind=0-> ∃n cap,a.vv=.slice n 1 cap)(q: ∀(b:Nat)(a:GC),t[b]? =some a->a.kind=2\/a.kind=3-> ∃(d:Ao)(c:Ro),NY T d a.kind c a/\d.glob=((G++t).map GC.sy).take (G.length+b)/\V[b]? =some (if a.kind=3 then .func c else .proc c)):DK T (G++t) (O++V):=by
 refine⟨by rw[r,(JO O Bv V o).2.2],by rw[AG,AG,e.len,p],fun a f l=> ?_,fun b a g m=> ?_⟩
 ·rcases BD.1 f with f|f
  ·exact e.var a f l
  ·exact s a f l
 ·by_cases k:b<G.length
  ·rw[CR k] at g;obtain⟨d,c,h,i,j⟩:=e.rou b a g m;exact⟨d,c,h,by rw[i,E6,UF (by rw[BF];omega)],by rw[CR (by rw[<-e.len];exact k)];exact j⟩
  ·rw[CS (by omega)] at g;obtain⟨d,c,h,i,j⟩:=q (b -G.length) a g m;exact⟨d,c,h,by rw[i,show G.length+(b -G.length)=b by omega],by rw[CS (by rw[<-e.len];omega),<-e.len];exact j⟩
variable{wb tb cap B:Nat}{w:World}{vi vo:Value}{zs:List Int}{ins:Int}
def Gb(V:List Gl)(zs:List Int):RS:=⟨V.map Ff,[],zs,[],0,none⟩
def J2(wb tb cap B:Nat)(T:List Az)(zs:List Int)(w:World)(O:List Gl)(b:Nat)(a:World):Prop:=
 ∃(X vi vo:Value)(G:List GC),RA wb tb cap B T 0 (-1) X G Aw [] a vi vo (Gb O zs)/\DK T G O/\G.length<=b/\Below wb w a
theorem QS(U:AR T): ∀(c:Nat)(O:List Gl)(s:PS),Av T s->Av T (BC T c O s).2
 |0,O,s,a=>by rw[BC];exact a
 |c+1,O,s,a=>by
  rw[BC];split
  ·rename_i b;exact QS U c _ _ (ZG U (A4 (Cp U a Ai b)))
  ·split
   ·rename_i b;exact QS U c _ _ (QT U (A4 (Cp U a Ai b)))
   ·split
    ·rename_i b;exact QS U c _ _ (QT U (A4 (Cp U a Ai b)))
    ·exact a
theorem Af1(U:AR T){s:PS}(k:s.code=0)(c:(Bd T s).2.code=0):(BJ T s).2.code=0/\Aj T Bc (BJ T s).2=true/\(AK T (AL T none 14) (Ab (BJ T s).2)).2.code=0/\(Bd T s).1=⟨(BJ T s).1,(AK T (AL T none 14) (Ab (BJ T s).2)).1⟩:=by
 have j:(Am T DR (BT T (BJ T s).2).2).code=0:=by
  have a:(Dm T (Am T DR (BT T (BJ T s).2).2)).code=0:=c;unfold Dm at a;split at a
  ·exact a
  ·unfold AI at a;split at a
   ·cases a
   ·exact a
 obtain⟨_,e,_⟩:=F5 j;obtain⟨_,b,_⟩:=F5 (show(Am T By (AK T (CV T 14) (Am T Bc (BJ T s).2)).2).code=0 from e);have l:=QS U T.length [] s (fun c=>absurd k c);have f:=Lk (JZ U (OV U 14)) (Kz U l (show Bc.toList≠[] from Ai)) b;obtain⟨g,h,i⟩:=F5 f;have d:Am T Bc (BJ T s).2=Ab (BJ T s).2:=i;rw[d,<-Hg] at b;refine⟨h,g,b,?_⟩;unfold Bd BT;rw[d,Hg]
theorem J2.vars{G:List GC}{O V:List Gl}{e w2:World}{nx:Nat}(l:DK T G O)(o:(AO Bv (O++V)).2=none)(a:IW wb tb cap B T 0 (-1) G Aw [] vi vo (Gb O zs) (AO Bv O).1 e V w2/\G.length+V.length<=nx)(k:Below wb w e):J2 wb tb cap B T zs w (O++V) nx w2:=by
 obtain⟨⟨p,t,g,h,c,d,i⟩,j⟩:=a;refine⟨p,vi,vo,G++t,?_,l.more o h d (fun b m q=> ?_) (fun s b n r=> ?_),by rw[AG,d];exact j,k.trans i⟩
 ·have f:({Gb O zs with glob:=(Gb O zs).glob++V.map Ff}:RS)=Gb (O++V) zs:=by unfold Gb;simp
  rw[<-f];exact g
 ·rcases c b m with a|a
  ·exact a.2
  ·omega
 ·rcases c b (Ct n) with a|a<;>omega
theorem J2.rout{G:List GC}{O:List Gl}{r w2:World}{nx kind:Nat}{a:Ro}(g:kind=2\/kind=3)(f:DK T G O)(p:(AO Bv (O++[if kind=3 then .func a else .proc a])).2=none)(t: ∃(i j k:Value)(b:GC),RA wb tb cap B T 0 (-1) i (G++[b]) Aw [] w2 j k {Gb O zs with glob:=(Gb O zs).glob++[⟨a.name.1,[]⟩]}/\NY T (AO Bv O).1 kind a b/\G.length+1<=nx/\Below wb r w2)(z:Below wb w r):J2 wb tb cap B T zs w (O++[if kind=3 then .func a else .proc a]) nx w2:=by
 obtain⟨i,j,k,b,v,e,x,y⟩:=t;have m:b.kind=kind:=C4 Sy.kind e.sy;have c:=(JO O Bv _ p).2.1
 have q:(DJ (AO Bv O).1 kind a).2=none:=by
  rw[Nd] at c;rcases g with rfl|rfl
  ·exact c
  ·exact c
 have n:(DJ (AO Bv O).1 kind a).1.glob=(AO Bv O).1.glob++[b.sy]:=by unfold DJ at q⊢;obtain⟨C,_⟩:=Bq q;obtain⟨c,d⟩:=Bq C;unfold Fg at c d⊢;obtain⟨D,h⟩:=Bq c;obtain⟨E,_⟩:=Bq D;obtain⟨_,l⟩:=MH E;dsimp only at l h d⊢;rw[l] at h d⊢;rw[(LO _ _ h).1] at d⊢;rw[(LO _ _ d).1,e.sy];rfl
 refine⟨i,j,k,G++[b],?_,f.more p ?_ rfl (fun I F u=> ?_) (fun H I o J=> ?_),by rw[AG];exact x,z.trans y⟩
 ·have s:({Gb O zs with glob:=(Gb O zs).glob++[⟨a.name.1,[]⟩]}:RS)=Gb (O++[if kind=3 then .func a else .proc a]) zs:=by unfold Gb;rcases g with rfl|rfl<;>simp[Ff]
  rw[<-s];exact v
 ·rw[E6,f.sy,Nd];show _=((Ce (AO Bv O).1 (if kind=3 then .func a else .proc a)).1).glob;rcases g with rfl|rfl
  ·exact n.symm
  ·exact n.symm
 ·rw[Hk.1 F] at u;omega
 ·have A:H=0:=by have:=(BH.1 o).1;simp at this;exact this
  subst A;cases o;refine⟨(AO Bv O).1,a,by rw[m];exact e,?_,by rw[m];rfl⟩;rw[<-f.sy,E6,Mq,UF (by simp),I1 (by simp)]
theorem Af0(U:AR T)(ac: ∀t∈T,t.val<=2147483647)(J:Cj T)(au: ∀s,An T s->Aj T AJ s=true-> ¬(Ad T s).kind=.name)(l:RA wb tb cap B T 0 ins Aw [] Aw [] w vi vo (Gb [] zs)){s:PS}(aw:s.next=0)(am:s.code=0)(ao:(Bd T s).2.code=0)(Z:D7 Bv (Bd T s).1=none):
 Ah 67 #[Al wb] w fun h ay=>h=.returned A6/\Hid (NX wb ay (Ld (Bd T s).1 zs B)/\Below wb w ay):=by
 obtain⟨R,al,an,av⟩:=Af1 U am ao;rw[av] at Z⊢;unfold D7 at Z;obtain⟨Y,af⟩:=Bq Z;dsimp only at Y af;have bh:=l.siz;have bg:=U.pos;have bj:w.cell? (Ac wb 6)=some (Aa ins):=l.cel 6 _ rfl;have bb:=l.frz 6;have a0:Hid (J2 wb tb cap B T zs w [] 0 (w.setCell ⟨wb,6,none⟩ (Aa (-1)))):=⟨Aw,vi,vo,[],l.par (Kr wb 6 _ _) (l.cel.set (o:=6) (by simp[Dy]) (Aa (-1))) (fun o=>by rw[Cu];exact l.frz o) rfl rfl rfl rfl l.use,⟨by rw[AO];rfl,rfl,fun a7 a8=>(by cases a8),fun ax a7 aq=>by simp at aq⟩,by simp,⟨rfl,rfl,rfl,by simp[World.setCell],fun ax aq=>Below.heap_setCell _ _ _ _ (by show ax≠wb;omega)⟩⟩;obtain⟨e,ab⟩: ∃e,e=BJ T s:=⟨_,rfl⟩;rw[<-ab] at R al an Y af⊢;have ak:BC T T.length [] s=e:=ab.symm;have a1:Hid (BC T T.length [] s=e):=ak;have L:Hid (∀M c,e.1=M++c->(AO Bv M).2=none):=fun M c h=>(JO M Bv c (by rw[<-h];exact Y)).1;clear l ab ak av Z ao;go_enter func67,ntmps67;go_wp2;go_loopw [2,3,4,5,6] (fun t _ _ _ _ wr=> ∃(a:PS)(O:List Gl)(K:Nat),t=Aa (a.next:Nat)/\An T a/\a.code=0/\T.length<=a.next+K/\Hid (BC T K O a=e)/\Hid (J2 wb tb cap B T zs w O a.next wr)) (fun t _ _ _ _ _=>T.length -(intOf t).toNat)
 case atStart=>exact⟨s,[],T.length,by rw[aw];rfl,by show s.next<_;omega,am,by omega,a1.out,by rw[aw];exact a0.out⟩
 case round=>
  obtain⟨a,O,K,rfl,ae,Q,bf,ai,C⟩:=hrel;have be:a.next<T.length:=ae;obtain⟨j,rfl⟩: ∃j,K=j+1:=⟨K -1,by omega⟩;obtain⟨bk,a9,ba,G,g,d,bc,m⟩:=C.out;have bi:wr.cell? (Ac wb 2)=some (Aa 0):=g.cel 2 _ rfl;have H:=fun z ad=>Dw g ae rfl (bs z) (J z ad);have S:=H [98,101,103,105,110] (by decide);have V:=H [118,97,114] (by decide);have W:=H [112,114,111,99] (by decide);have X:=H [102,117,110,99] (by decide);obtain⟨a3,u⟩: ∃c,Aj T Bc a=c:=⟨_,rfl⟩;obtain⟨a4,v⟩: ∃c,Aj T CJ a=c:=⟨_,rfl⟩;obtain⟨a5,A⟩: ∃c,Aj T F0 a=c:=⟨_,rfl⟩;obtain⟨a6,I⟩: ∃c,Aj T GO a=c:=⟨_,rfl⟩;rw[u] at S;rw[v] at V;rw[A] at W;rw[I] at X;simp only[bs] at S V W X;have b:=ai.out;rw[BC] at b;have P:(((Ab a).next:Nat):Int)=(a.next:Int)+1:=by show((a.next+1:Nat):Int)=_;omega
  have aa:Av T (Ab a):=A4 Q;have x: ∀z:List UInt8,z≠[]->Aj T (bs z) a=true->An T (Ab a):=fun z ad h=>AD U ae h (I6 _ ad)
  obtain⟨ap,bd⟩:=Tm O Bv rfl rfl (by
   obtain⟨c,i⟩:=LF (T:=T) (j+1) O a
   exact L.out O c (by rw[<-ai.out];exact i))
  clear H;go_upto_region 4 with(go_at_call 94;refine Aq S ?_);go_upto_region 5 with(go_at_call 94;refine Aq V ?_);go_upto_region 6 with(go_at_call 94;refine Aq W ?_);go_upto_region 8 with(go_at_call 94;refine Aq X ?_);clear S V W X;cases a3 with
  |true=>
   rw[Ae (by rw[DU u (by decide)];simp),Ae (by rw[DU u (by decide)];simp),Ae (by rw[DU u (by decide)];simp)] at b;have N:O=e.1:=C4 Prod.fst b;have y:a=e.2:=C4 Prod.snd b;have aj:=Abm U ac J g rfl rfl d (by rw[N];exact Y) (x _ (by simp) u) aa (by rw[y];exact an) (by rw[N,y];exact af);rw[P] at aj;have a2:Hid (Dp B (Ef B O 30) (AK T (AL T none 14) (Ab a)).1 (Gb O zs)=Ld ⟨e.1,(AK T (AL T none 14) (Ab e.2)).1⟩ zs B):=by show _=_;rw[N,y];rfl
   have az:Hid _:=m;clear b N y g d m C;go_wp2_with(go_at_call 95;refine aj.mono ?_;rintro h ah⟨rfl,k⟩);refine bodyPost_ret (v:=.tuple #[]) (by simp[results,results67,go_sem]) rfl ?_;rw[<-a2.out];exact⟨rfl,k.out.1,az.out.trans k.out.2⟩
  |false=>
   cases a4 with
   |true=>
    rw[Ag v] at b;have p:(BP T (Ab a)).2.code=0:=SB U (ZG U aa) (by rw[b];exact R);have q:(AO Bv (O++(BP T (Ab a)).1)).2=none:=by obtain⟨c,i⟩:=LF (T:=T) j (O++(BP T (Ab a)).1) (BP T (Ab a)).2;exact L.out _ c (by rw[<-i,b])
    have n:=Aje U J g (x _ (by simp) v) Q p d.sy.symm (JO O Bv _ q).2.1 (by show _<=a.next+1;omega);rw[P] at n;have f:=Qm U (Ab a) (x _ (by simp) v);have ar:a.next+1<=(BP T (Ab a)).2.next:=f.2
    have D:Hid (∀r,_->_):=fun r F=>J2.vars (tb:=tb) (cap:=cap) (B:=B) (vi:=a9) (vo:=ba) (zs:=zs) (nx:=(BP T (Ab a)).2.next) (w2:=r) (w:=w) d q F m;have E:Hid _:=b;clear b g d m C;go_wp2_with(go_at_call 96;refine n.mono ?_;rintro h ah⟨rfl,k⟩)
    go_roundw
    case rel=>exact⟨(BP T (Ab a)).2,_,j,rfl,f.1,p,by omega,E.out,D.out _ k.out⟩
    case measure=>have:(BP T (Ab a)).2.next<T.length:=f.1;simp[intOf];omega
   |false=>
    cases a5 with
    |true=>
     rw[Ae (by rw[v];simp),Ag A] at b;have p:(AZ T (Ab a)).2.code=0:=SB U (QT U aa) (by rw[b];exact R);have q:(AO Bv (O++[if(2:Nat)=3 then .func (AZ T (Ab a)).1 else .proc (AZ T (Ab a)).1])).2=none:=by obtain⟨c,i⟩:=LF (T:=T) j (O++[.proc (AZ T (Ab a)).1]) (AZ T (Ab a)).2;exact L.out _ c (by rw[b] at i;exact i)
     have ag:(DJ (AO Bv O).1 2 (AZ T (Ab a)).1).2=none:=by have:=(JO O Bv _ q).2.1;rw[Nd] at this;exact this
     have n:=Zf U ac J au g rfl (x _ (by simp) A) Q p (kind:=2) (by omega) d.sy.symm ap ag d.var (by show _<=a.next+1;omega);rw[P] at n;have f:=K6 U (Ab a) (x _ (by simp) A);have ar:a.next+1<=(AZ T (Ab a)).2.next:=f.2
     have D:Hid (∀r,_->_):=fun r F=>J2.rout (tb:=tb) (cap:=cap) (B:=B) (zs:=zs) (nx:=(AZ T (Ab a)).2.next) (w2:=r) (w:=w) (kind:=2) (by omega) d q F m;have E:Hid _:=b;clear b g d m C;go_wp2_with(go_at_call 97;refine n.mono ?_;rintro h ah⟨rfl,k⟩)
     go_roundw
     case rel=>exact⟨(AZ T (Ab a)).2,_,j,rfl,f.1,p,by omega,E.out,D.out _ k.out⟩
     case measure=>have:(AZ T (Ab a)).2.next<T.length:=f.1;simp[intOf];omega
    |false=>
     cases a6 with
     |true=>
      rw[Ae (by rw[v];simp),Ae (by rw[A];simp),Ag I] at b;have p:(AZ T (Ab a)).2.code=0:=SB U (QT U aa) (by rw[b];exact R);have q:(AO Bv (O++[if(3:Nat)=3 then .func (AZ T (Ab a)).1 else .proc (AZ T (Ab a)).1])).2=none:=by obtain⟨c,i⟩:=LF (T:=T) j (O++[.func (AZ T (Ab a)).1]) (AZ T (Ab a)).2;exact L.out _ c (by rw[b] at i;exact i)
      have ag:(DJ (AO Bv O).1 3 (AZ T (Ab a)).1).2=none:=by have:=(JO O Bv _ q).2.1;rw[Nd] at this;exact this
      have n:=Zf U ac J au g rfl (x _ (by simp) I) Q p (kind:=3) (by omega) d.sy.symm ap ag d.var (by show _<=a.next+1;omega);rw[P] at n;have f:=K6 U (Ab a) (x _ (by simp) I);have ar:a.next+1<=(AZ T (Ab a)).2.next:=f.2
      have D:Hid (∀r,_->_):=fun r F=>J2.rout (tb:=tb) (cap:=cap) (B:=B) (zs:=zs) (nx:=(AZ T (Ab a)).2.next) (w2:=r) (w:=w) (kind:=3) (by omega) d q F m;have E:Hid _:=b;clear b g d m C;go_wp2_with(go_at_call 97;refine n.mono ?_;rintro h ah⟨rfl,k⟩)
      go_roundw
      case rel=>exact⟨(AZ T (Ab a)).2,_,j,rfl,f.1,p,by omega,E.out,D.out _ k.out⟩
      case measure=>have:(AZ T (Ab a)).2.next<T.length:=f.1;simp[intOf];omega
     |false=>
      exfalso;rw[Ae (by rw[v];simp),Ae (by rw[A];simp),Ae (by rw[I];simp)] at b;have y:a=e.2:=C4 Prod.snd b;rw[y,al] at u;cases u
theorem RA.new(v: ∀b e,(DN T)[b]? =some e->w.cell? (Ac tb b)=some e)(j:tb<w.heap.size)(u:T.length<=601)(p:B<=3000)(r:GY w vi zs)(y: ∀d,Oq vi=some d->d<w.heap.size)(A: ∀k∈zs,VB k)(q:Ir vi)(t:TypeId):
 RA w.heap.size tb cap B T 0 0 Aw [] Aw [] (w.alloc (.cells (Dy tb cap T.length Aw Aw 0 vi Aw B 0 (Gb [] zs)).toArray t)) vi Aw (Gb [] zs):=by
 have i:Ay w (w.alloc (.cells (Dy tb cap T.length Aw Aw 0 vi Aw B 0 (Gb [] zs)).toArray t)):=AP;refine⟨fun o k x=> ?_,fun o=>Gc _ _ _ _,fun b e s=> ?_,j,u,p,B6 _,⟨r.below i,y⟩,World.ownsRow_nil _ _ _ _,World.ownsRow_nil _ _ _ _,⟨rfl,fun d h c=>by simp at c⟩,⟨rfl,fun d h c=>by simp at c⟩,World.ownsRow_nil _ _ _ _,?_,⟨fun D z=>(by cases z),A⟩,⟨⟨fun C b l m f=>by simp at f,by simp⟩,⟨fun C b l m f=>by simp at f,by simp⟩⟩,fun h c=>(by cases c),q⟩
 ·rw[Cl];simpa using x
 ·rw[i.cell (p:=Ac tb b) j];exact v b e s
 ·have g: ∀a,Df Aw a:=fun a d n=>by cases n
  simp only[NR,IY,Hm];exact⟨fun a _=>g a,fun a _=>g a,fun a _=>g a,List.Pairwise.nil⟩
theorem Af9(U:AR T)(aj: ∀t∈T,t.val<=2147483647)(am:Cj T)(ap: ∀s,An T s->Aj T AJ s=true-> ¬(Ad T s).kind=.name)(X: ∀m x,(DN T)[m]? =some x->w.cell? (Ac tb m)=some x)(au:tb<w.heap.size)(ar:T.length<=601)(ai:B<=3000)(V:GY w vi zs)(av: ∀b,Oq vi=some b->b<w.heap.size)(aw: ∀ay∈zs,VB ay)(al:Ir vi){s:PS}(aq:s.next=0)(ak:s.code=0)(S:(Bd T s).2.code=0)(W:D7 Bv (Bd T s).1=none):
 Ah 69 #[Ar tb T.length cap,vi,Aa (B:Nat),Aa (B:Nat)] w fun g p=> ∃vo,g=.returned (.tuple #[.agg #[Aa ((El (Bd T s).1 zs B).1:Nat),vo,Aa ((El (Bd T s).1 zs B).2.2:Nat)],.bool true])/\Hid (p.ownsRow w.heap.size 3 1 vo (El (Bd T s).1 zs B).2.1.length ((El (Bd T s).1 zs B).2.1.map (.int .i64))/\Ay w p):=by
 obtain⟨e,D⟩: ∃e,e=El (Bd T s).1 zs B:=⟨_,rfl⟩;rw[<-D];have ac:Hid (e=El (Bd T s).1 zs B):=D;clear D;have Y: ∀o:Obj,Ay w (w.alloc o):=fun o=>AP;obtain⟨K,L,rfl,_⟩:=id V;obtain⟨a,E⟩: ∃a,a=Ld (Bd T s).1 zs B:=⟨_,rfl⟩;have R:Ah 67 #[Al (w.heap.size+1)] ((w.alloc (.cells #[Aa 0,Aw,Aa 0] 39)).alloc (.cells #[Ar tb T.length cap,Aa 2,Aa 0,Aa 0,Aw,Aw,Aa 0,.slice K zs.length L,Aa (B:Nat),Aa 0,.bool false,.bool false,Aa 0,Aw,Aa 0] 126)) fun g p=>g=.returned A6/\Hid (NX (w.heap.size+1) p a/\Below (w.heap.size+1) ((w.alloc (.cells #[Aa 0,Aw,Aa 0] 39)).alloc (.cells #[Ar tb T.length cap,Aa 2,Aa 0,Aa 0,Aw,Aw,Aa 0,.slice K zs.length L,Aa (B:Nat),Aa 0,.bool false,.bool false,Aa 0,Aw,Aa 0] 126)) p):=by have u:=Af0 (T:=T) U aj am ap (RA.new (w:=w.alloc (.cells #[Aa 0,Aw,Aa 0] 39)) (tb:=tb) (cap:=cap) (B:=B) (vi:=.slice K zs.length L) (zs:=zs) (fun m x an=>by rw[(Y _).cell (p:=Ac tb m) au];exact X m x an) (by simp;omega) ar ai (V.below (Y _)) (fun b g=>by have:=av b g;simp;omega) aw al 126) aq ak S W;rw[<-E,show(w.alloc (.cells #[Aa 0,Aw,Aa 0] 39)).heap.size=w.heap.size+1 by simp] at u;exact u
 have a2:min (B:Int) (B:Int)=(B:Int):=by omega
 have HS:Hid (a=Ld (Bd T s).1 zs B):=E;clear X E S W;go_enter func69,ntmps69;go_upto_region 3 with(go_at_call 67;refine R.mono ?_;rintro g d⟨rfl,N⟩);obtain⟨⟨a5,H,ax,a3,a4,n,I⟩,v⟩:=N.out;have i: ∀o,d.cell? (Ac w.heap.size o)=(#[Aa 0,Aw,Aa 0]:Array Value)[o]? /\d.frozen? (Ac w.heap.size o)=false:=fun o=>by have Q: ∀k:Obj,Below (w.alloc (.cells #[Aa 0,Aw,Aa 0] 39)).heap.size (w.alloc (.cells #[Aa 0,Aw,Aa 0] 39)) ((w.alloc (.cells #[Aa 0,Aw,Aa 0] 39)).alloc k):=fun k=>AP;exact⟨by rw[v.cell (p:=Ac w.heap.size o) (by show w.heap.size<_;omega),(Q _).cell (p:=Ac w.heap.size o) (by simp),Cl],by rw[v.frozen (p:=Ac w.heap.size o) (by show w.heap.size<_;omega),(Q _).frozen (p:=Ac w.heap.size o) (by simp),Gc]⟩
 have Z:d.cell? (Ac w.heap.size 0)=some (Aa 0):=(i 0).1;have aa:d.cell? (Ac w.heap.size 1)=some Aw:=(i 1).1;have ab:d.cell? (Ac w.heap.size 2)=some (Aa 0):=(i 2).1;have a6:=(i 0).2;have a7:=(i 1).2;have a8:=(i 2).2;have az:=I 11;have a0:=I 12;obtain⟨F,G,rfl,_⟩:=D9 n;have O:Hid (∀h,(∀b,b≠w.heap.size->b≠w.heap.size+1->h.heap[b]? =d.heap[b]?)->h.os=d.os->h.tape=d.tape->h.output=d.output->d.heap.size<=h.heap.size->h.ownsRow w.heap.size 3 1 (.slice F a.out.length G) a.out.length (a.out.map (.int .i64))/\Ay w h):=fun h f r ae af ag=>by have ah: ∀k M:Obj,Ay w ((w.alloc k).alloc M):=fun k M=>AP.alloc (by simp) _;refine⟨QH (Cq n fun b g=>f b (by have:=(n.lt b g).1;omega) (by have:=(n.lt b g).1;omega)) (by omega),?_⟩;have l:=(ah _ _).trans (v.mono (by omega));exact⟨r.trans l.os,ae.trans l.tape,af.trans l.output,AT l.size ag,fun b ao=>(f b (by omega) (by omega)).trans (l.block b ao)⟩
 have q:Hid (e=((match a.stop with|none=>0|some 0=>8|some c=>c),a.out,a.used)):=by show _=_;rw[ac.out,HS.out];rfl
 have a1:(B:Int)>=(B:Int):=by omega
 clear R N v i n I;by_cases j:a.stop=some 0
 ·have y:Hid (e.1=8/\e.2.1=a.out/\e.2.2=a.used):=by show _/\_;rw[q.out,j];exact⟨rfl,rfl,rfl⟩
  rw[j] at H ax;rw[show((some 0:Option Nat) !=some 0)=false from rfl] at H;clear j q;generalize a.used=J at*;go_wp2_with fail;go_region;all_goals go_wp2_with fail
  all_goals refine bodyPost_ret (v:=.tuple #[.agg #[Aa 8,.slice F a.out.length G,Aa (J:Nat)],.bool true]) (by simp[results,results69,go_sem,Z,aa,ab]) rfl ?_
  all_goals(
   obtain⟨z,A,C⟩:=y.out;rw[z,A,C]
   exact⟨_,rfl,O.out _ (fun b f r=>by
    show(((((d.setCell _ _).setCell _ _).setCell _ _).setCell _ _).setCell _ _).heap[b]? =_
    rw[Below.heap_setCell _ (Ac w.heap.size 2) _ _ f,Below.heap_setCell _ (Ac w.heap.size 1) _ _ f,Below.heap_setCell _ (Ac w.heap.size 0) _ _ f,Below.heap_setCell _ (Ac (w.heap.size+1) 12) _ _ r,Below.heap_setCell _ (Ac (w.heap.size+1) 11) _ _ r]) rfl rfl rfl (by simp[World.setCell])⟩)
 ·have P:(a.stop !=some 0)=true:=by simpa using j
  rw[P] at H
  have y:Hid (e.1=a.stop.getD 0/\e.2.1=a.out/\e.2.2=a.used):=by
   show _/\_;rw[q.out];refine⟨?_,rfl,rfl⟩;cases u:a.stop with
   |none=>rfl
   |some b=>
    cases b with
    |zero=>exact absurd u j
    |succ b=>rfl
  clear j P q;generalize a.stop.getD 0=ad at*;generalize a.used=J at*;go_wp2_with fail;go_region;all_goals go_wp2_with fail
  all_goals refine bodyPost_ret (v:=.tuple #[.agg #[Aa (ad:Nat),.slice F a.out.length G,Aa (J:Nat)],.bool true]) (by simp[results,results69,go_sem,Z,aa,ab]) rfl ?_
  all_goals(
   obtain⟨z,A,C⟩:=y.out;rw[z,A,C]
   exact⟨_,rfl,O.out _ (fun b f _=>by
    show(((d.setCell _ _).setCell _ _).setCell _ _).heap[b]? =_
    rw[Below.heap_setCell _ (Ac w.heap.size 2) _ _ f,Below.heap_setCell _ (Ac w.heap.size 1) _ _ f,Below.heap_setCell _ (Ac w.heap.size 0) _ _ f]) rfl rfl rfl (by simp[World.setCell])⟩)
end
