/- The reference's walk: the whole program. Plain: whoever has  -/
import Derived.Test.YtklobognaldjpaaGreatCDcl8
import Derived.Test.YtklobognaldjpaaGreatCChk1
set_option maxRecDepth 1000000
set_option maxHeartbeats 8000000
namespace Go.Proofs.YtklobognaldjpaaGreat
open Go.Proofs.Tryz
open Go.RowKit
section
variable{U O cap:Nat}{T:List Az}{m:Option Nm}{n:Nm}{w V:World}{s:PS}
theorem Ags(d:AR T)(K:Cj T)(ak:Rz U O cap T w)(ah:RD U O cap T w m (w.setCell ⟨U,6,none⟩ (Aa (-1))) ⟨0,0,0⟩)(av:Cb (Ax m) ⟨0,0,0⟩)(ai:(w.cell? (Ac U 6)).isSome=true)(a3:w.frozen? (Ac U 6)=false):
 Ah 67 #[Al U] w fun I ap=>I=.returned A6/\ ∃a0 ao,RW U O cap T a0 ap ao/\Lu ao (ES T (Ax m) ⟨0,0,0⟩)/\As U w ap:=by
 have a6:=ah.rw.size;have ax:=d.pos;obtain⟨v6,a7⟩:=KN.1 ai;have aq:Hid (ES T (Ax m) ⟨0,0,0⟩=Fe T T.length (Ax m) ⟨0,0,0⟩):=rfl;clear ai;go_enter func67,ntmps67;go_wp2;go_loopw [2,3,4,5,6] (fun ae _ _ _ _ wr=> ∃(a:PS)(u:Option Nm)(L:Nat)(b:Option Ao)(af:Int),ae=Aa af/\At a af/\RD U O cap T w u wr a/\An T a/\Av T a/\Hid (a.code=0->Ax u=b/\Cb b a)/\T.length<=a.next+L/\Hid (Fe T L b a=ES T (Ax m) ⟨0,0,0⟩)) (fun ae _ _ _ _ wr=>P9 T.length wr U ae)
 case atStart=>exact⟨⟨0,0,0⟩,m,T.length,Ax m,0,rfl,fun _=>rfl,ah,ax,D0 rfl,fun _=>⟨rfl,av⟩,by omega,aq.out.symm⟩
 case round=>
  obtain⟨a,u,L,b,af,rfl,au,i,g,Q,E,a5,f⟩:=hrel;have Z:a.next<T.length:=g;have al:=i.rw.fault;by_cases C:a.code=0
  ·obtain rfl:=au C;rw[C] at al;obtain⟨F,J⟩:=E.out C;have W:Hid (wr.cell? (Ac U 2)=some (Aa 0)):=al;have n:=D3 d i.rw g Q a.next (fun _=>rfl) Bc (K _ (by decide));have q:=D3 d i.rw g Q a.next (fun _=>rfl) CJ (K _ (by decide));have p:=D3 d i.rw g Q a.next (fun _=>rfl) F0 (K _ (by decide));have o:=D3 d i.rw g Q a.next (fun _=>rfl) GO (K _ (by decide));have aa:At (Ab a) ((a.next:Int)+1):=fun _=>by show _=((a.next+1:Nat):Int);omega
   have l:Av T (Ab a):=A4 C;have X:RD U O cap T w u wr (Ab a):=i.at _;cases x:Aj T Bc a with
   |true=>
    rw[x] at n;rw[DU (b:=[118,97,114]) x (by decide)] at q;rw[DU (b:=[112,114,111,99]) x (by decide)] at p;rw[DU (b:=[102,117,110,99]) x (by decide)] at o;have e:=AD d g x Ai;have aj:=Agm d K X.rw e l ((a.next:Int)+1) aa;rw[F] at aj;have h:Hid (ES T (Ax m) ⟨0,0,0⟩=Dm T (Am T DR (Am T By (AK T (AL T b 14) (Ab a)).2))):=by show _=_;rw[<-f.out,Acy x]
    clear f x E;go_wp2_with(first|(go_at_call 94;have _q:=t;refine Aq o ?_)|(go_at_call 94;have _q:=s;refine Aq p ?_;have t:Hid True:=trivial)|(go_at_call 94;have _q:=r;refine Aq q ?_;have s:Hid True:=trivial)|(go_at_call 94;refine Aq n ?_;have r:Hid True:=trivial)|(go_at_call 95;refine aj.mono ?_;rintro I ab⟨rfl,a1,Y,ay,ad⟩))
    (try simp only[Exit.inBlock,Exit.then])
    refine bodyPost_ret (results_none rfl _ _ _) rfl ?_;rw[h.out];exact⟨rfl,u,a1,Y,ay,i.par.trans ad⟩
   |false=>
   have v:=x;clear x;obtain⟨k,rfl⟩: ∃k,L=k+1:=⟨L -1,by omega⟩;cases D:Aj T CJ a with
   |true=>
    rw[v] at n;rw[D] at q;rw[DU (b:=[112,114,111,99]) D (by decide)] at p;rw[DU (b:=[102,117,110,99]) D (by decide)] at o;have e:=AD d g D Ai;have A:=Ajb d K X e l ((a.next:Int)+1) aa (fun _=>by rw[F];exact J.le (Ic _));rw[F] at A;have j:=Ol d b e l;have N:Hid ((EH T b (Ab a)).2.code=0->Cb (EH T b (Ab a)).1 (EH T b (Ab a)).2):=fun c=>Aby d (J.le (Ic _)) e l c;have h:Hid (Fe T k (EH T b (Ab a)).1 (EH T b (Ab a)).2=ES T (Ax m) ⟨0,0,0⟩):=by show _=_;rw[<-f.out,AcC D]
    have am:a.next+1<=(EH T b (Ab a)).2.next:=j.le
    generalize EH T b (Ab a)=y at*;clear f D v E;go_wp2_with(first|(go_at_call 94;have _q:=t;refine Aq o ?_)|(go_at_call 94;have _q:=s;refine Aq p ?_;have t:Hid True:=trivial)|(go_at_call 94;have _q:=r;refine Aq q ?_;have s:Hid True:=trivial)|(go_at_call 94;refine Aq n ?_;have r:Hid True:=trivial)|(go_at_call 96;refine A.mono ?_;rintro I ab⟨R,S,rfl,B,an,P,z⟩))
    go_roundw
    case rel=>exact⟨y.2,S,k,y.1,R,rfl,B,z,j.good,j.stk,(fun c=>⟨P c,N.out c⟩),by omega,h⟩
    case measure=>exact Qa W.out Z z.rw.fault (fun c=>⟨B c,by omega⟩)
   |false=>
   have G:=D;clear D;cases H:Aj T F0 a with
   |true=>
    rw[v] at n;rw[G] at q;rw[H] at p;rw[DU (b:=[102,117,110,99]) H (by decide)] at o;have e:=AD d g H Ai;have A:=ak u wr (Ab a) ((a.next:Int)+1) 2 X e l aa (fun _=>by rw[F];exact J.le (Ic _));rw[F] at A;have j:=LJ d b 2 e l;have N:Hid ((CO T b 2 (Ab a)).2.code=0->Cb (CO T b 2 (Ab a)).1 (CO T b 2 (Ab a)).2):=fun c=>Vt d (J.le (Ic _)) e l c;have h:Hid (Fe T k (CO T b 2 (Ab a)).1 (CO T b 2 (Ab a)).2=ES T (Ax m) ⟨0,0,0⟩):=by show _=_;rw[<-f.out,AcB H]
    have am:a.next+1<=(CO T b 2 (Ab a)).2.next:=j.le
    generalize CO T b 2 (Ab a)=y at*;clear f H v G E;go_wp2_with(first|(go_at_call 94;have _q:=t;refine Aq o ?_)|(go_at_call 94;have _q:=s;refine Aq p ?_;have t:Hid True:=trivial)|(go_at_call 94;have _q:=r;refine Aq q ?_;have s:Hid True:=trivial)|(go_at_call 94;refine Aq n ?_;have r:Hid True:=trivial)|(go_at_call 97;refine A.mono ?_;rintro I ab⟨R,S,rfl,B,an,P,z⟩))
    go_roundw
    case rel=>exact⟨y.2,S,k,y.1,R,rfl,B,z,j.good,j.stk,(fun c=>⟨P c,N.out c⟩),by omega,h⟩
    case measure=>exact Qa W.out Z z.rw.fault (fun c=>⟨B c,by omega⟩)
   |false=>
   have V:=H;clear H;cases M:Aj T GO a with
   |true=>
    rw[v] at n;rw[G] at q;rw[V] at p;rw[M] at o;have e:=AD d g M Ai;have A:=ak u wr (Ab a) ((a.next:Int)+1) 3 X e l aa (fun _=>by rw[F];exact J.le (Ic _));rw[F] at A;have j:=LJ d b 3 e l;have N:Hid ((CO T b 3 (Ab a)).2.code=0->Cb (CO T b 3 (Ab a)).1 (CO T b 3 (Ab a)).2):=fun c=>Vt d (J.le (Ic _)) e l c;have h:Hid (Fe T k (CO T b 3 (Ab a)).1 (CO T b 3 (Ab a)).2=ES T (Ax m) ⟨0,0,0⟩):=by show _=_;rw[<-f.out,AcA M]
    have am:a.next+1<=(CO T b 3 (Ab a)).2.next:=j.le
    generalize CO T b 3 (Ab a)=y at*;clear f M v G V E;go_wp2_with(first|(go_at_call 94;have _q:=t;refine Aq o ?_)|(go_at_call 94;have _q:=s;refine Aq p ?_;have t:Hid True:=trivial)|(go_at_call 94;have _q:=r;refine Aq q ?_;have s:Hid True:=trivial)|(go_at_call 94;refine Aq n ?_;have r:Hid True:=trivial)|(go_at_call 97;refine A.mono ?_;rintro I ab⟨R,S,rfl,B,an,P,z⟩))
    go_roundw
    case rel=>exact⟨y.2,S,k,y.1,R,rfl,B,z,j.good,j.stk,(fun c=>⟨P c,N.out c⟩),by omega,h⟩
    case measure=>exact Qa W.out Z z.rw.fault (fun c=>⟨B c,by omega⟩)
   |false=>
    have ag:=M;rw[v] at n;rw[G] at q;rw[V] at p;rw[ag] at o;have ar:=H8 i.rw g 4 a.next (fun _=>rfl);have ac:(AI T 4 a).code=4:=by simp[AI,C]
    have h:Hid (Fe T (k+1) b (AI T 4 a)=ES T (Ax m) ⟨0,0,0⟩):=by show _=_;rw[<-f.out,Acx d (k+1) b C G V ag v]
    have aw:=Gh d 4 a;have a4:=FO (T:=T) 4 g;have az:Av T (AI T 4 a):=EL 4 a;generalize AI T 4 a=a2 at*;clear f M v G V ag E;go_wp2_with(first|(go_at_call 94;have _q:=t;refine Aq o ?_)|(go_at_call 94;have _q:=s;refine Aq p ?_;have t:Hid True:=trivial)|(go_at_call 94;have _q:=r;refine Aq q ?_;have s:Hid True:=trivial)|(go_at_call 94;refine Aq n ?_;have r:Hid True:=trivial)|(go_at_call 98;refine ar.mono ?_;rintro I ab⟨rfl,Y,ad⟩))
    go_roundw
    case rel=>exact⟨a2,u,k+1,b,a.next,rfl,(fun c=>by rw[ac] at c;cases c),i.step Y ad,aw,az,(fun c=>by rw[ac] at c;cases c),by omega,h⟩
    case measure=>exact Qa (i':=0) W.out Z Y.fault (fun c=>by rw[ac] at c;cases c)
  ·have a8:((a.code:Int)==0)=false:=by simp;omega
   have h:Hid (Lu a (ES T (Ax m) ⟨0,0,0⟩)):=by show Lu _ _;rw[<-f.out];exact Acz d L b g Q C
   clear C f E;go_wp2;go_end0;exact⟨rfl,u,a,i.rw,h.out,i.par⟩
end
theorem AcE: ∀b∈JG,(Ha.contains b=true\/ ∀a,b.head?=some a->Ii a=false)/\ ∀a,b.head?=some a->Ge a=false:=by
 have f: ∀b∈JG,(Ha.contains b||(match b.head? with|some a=> !Ii a|none=>true))=true/\(match b.head? with|some a=> !Ge a|none=>true)=true:=by decide
 intro b g;obtain⟨c,e⟩:=f b g;refine⟨?_,fun a d=> ?_⟩
 ·simp only[Bool.or_eq_true] at c;rcases c with c|c
  ·exact .inl c
  ·right;intro a d;rw[d] at c;simpa using c
 ·rw[d] at e;simpa using e
theorem Ad5{l:List UInt8}{k:TK}{n v:Nat}(a:Cw l=.ok (k,n,v)){c:List UInt8}(m:c∈JG)(f:l.take n=c):k=.sign\/k=.keyword:=by
 have p:=JN a;obtain⟨b,h⟩:=AcE c m;unfold Cw at a;split at a
 ·cases a
 ·rename_i d q
  have g:c.head?=some d:=by
   rw[<-f];cases n with
   |zero=>omega
   |succ n=>rfl
  split at a
  ·rename_i o;simp only[Mg,J8] at a;obtain⟨e,i,_⟩:=a;rw[i,f] at e;rcases b with b|b
   ·rw[Ag b] at e;exact .inr e.symm
   ·have:=b d g;rw[o] at this;cases this
  ·split at a
   ·rename_i j;have:=h d g;rw[j] at this;cases this
   ·split at a
    ·simp only[Mg,J8] at a;exact .inl a.1.symm
    ·split at a
     ·simp only[Mg,J8] at a;exact .inl a.1.symm
     ·cases a
def RB(a:Az):Prop:= ∀b∈JG,a.text.toList=b->a.kind=.sign\/a.kind=.keyword
theorem V3: ∀a∈JG,a≠[]:=by decide
theorem AeZ{b:List UInt8}{c:Nat}{a:TK×Nat×Nat}(d:Cw (b.drop c)=.ok a):RB (FP b c a):=by intro g f e;refine Ad5 (l:=b.drop c) (k:=a.1) (n:=a.2.1) (v:=a.2.2) d f ?_;rw[<-e];show _=(bs ((b.drop c).take a.2.1)).toList;rw[Ie]
theorem YB(d:List UInt8):RB (L0 d):=by intro a c b;exfalso;exact V3 a c (by rw[<-b];show(bs []).toList=[];rw[Ie])
theorem Xm(b:List UInt8): ∀(j d:Nat)(T:List Az),b.length -d<=j->FB b d=.ok T-> ∀f∈T,RB f
 |0,d,T,k,a=>by rw[Jd (by omega)] at a;cases a;intro f c;simp at c;subst c;exact YB b
 |j+1,d,T,k,a=>by
  by_cases h:d<b.length
  ·cases g:Cw (b.drop d) with
   |error n=>rw[MZ h g] at a;cases a
   |ok e=>
    rw[Nb h g] at a;have q:=JN (k:=e.1) (n:=e.2.1) (v:=e.2.2) g;have p:=KV b (d+e.2.1);cases i:FB b (B3 b (d+e.2.1)) with
    |error o=>rw[i] at a;cases a
    |ok m=>
     rw[i] at a;cases a;have l:=Xm b j (B3 b (d+e.2.1)) m (by omega) i;intro f c;rcases C0.1 c with rfl|c
     ·exact AeZ g
     ·exact l f c
  ·rw[Jd h] at a;cases a;intro f c;simp at c;subst c;exact YB b
theorem Wa{d:List UInt8}{T:List Az}(e:DD d=.ok T):Cj T:=by intro a c;refine⟨by rw[Ie];exact V3 a c,fun g f b=> ?_⟩;rw[Ie] at b;exact Xm d _ _ T (AA _) e g f a c (by simpa using b)
theorem Oj{T:List Az}(g:Cj T){a:Az}(h:a∈T)(c:a.kind=.name\/a.kind=.number){b:List UInt8}(f:b∈JG):(a.text.toList==b)=false:=by
 cases e:(a.text.toList==b) with
 |false=>rfl
 |true=>
  have d:=(g b f).2 a h (by rw[Ie];exact e);rcases c with c|c<;>(rw[c] at d;simp at d)
theorem Abn{T:List Az}(a:Cj T):Br T:=by
 intro d c b;refine⟨?_,?_,?_⟩
 ·rw[MU,Oj a c b (by decide),Oj a c b (by decide)];rfl
 ·rw[Ot,Oj a c b (by decide),Oj a c b (by decide)];rfl
 ·rw[SI,Oj a c b (by decide)]
theorem Wu{T:List Az}(c:Cj T): ∀s,An T s->Aj T AJ s=true-> ¬(Ad T s).kind=.name:=by intro s d b e;have a:=(c [41] (by decide)).2 _ (PD d) b;rw[e] at a;simp at a
def Jh:Nm:=⟨Bv,Aw,Aw⟩
def Iq(O len cap:Nat)(a:Int):Array Value:= #[Ar O len cap,Aa a,Aa 0,Aa 0,Aw,Aw,Aa 0,Aw,Aa 0,Aa 0,.bool false,.bool false,Aa 0,Aw,Aa 0]
section
variable{O cap:Nat}{T:List Az}{W:World}
theorem Ajg(s:T.length<=601)(u:O<W.heap.size)(v: ∀d e,(DN T)[d]? =some e->W.cell? (Ac O d)=some e)(m:Option Nm)(j:m=none\/m=some Jh)(b:TypeId):
 RD W.heap.size O cap T (W.alloc (.cells (Iq O T.length cap (CU m)) b)) m ((W.alloc (.cells (Iq O T.length cap (CU m)) b)).setCell ⟨W.heap.size,6,none⟩ (Aa (-1))) ⟨0,0,0⟩:=by
 have h:=fun o=>Cl W (Iq O T.length cap (CU m)) b o;have k:=fun o=>Gc W (Iq O T.length cap (CU m)) b o;have a: ∀o,o≠6->((W.alloc (.cells (Iq O T.length cap (CU m)) b)).setCell ⟨W.heap.size,6,none⟩ (Aa (-1))).cell? (Ac W.heap.size o)=(Iq O T.length cap (CU m))[o]? :=fun o g=>by rw[Bh _ _ _ _ (by intro f;cases f;exact g rfl)];exact h o
 have i:((W.alloc (.cells (Iq O T.length cap (CU m)) b)).setCell ⟨W.heap.size,6,none⟩ (Aa (-1))).cell? (Ac W.heap.size 6)=some (Aa (-1)):=DW _ _ _ ((h 6).trans rfl);have t:((W.alloc (.cells (Iq O T.length cap (CU m)) b)).setCell ⟨W.heap.size,6,none⟩ (Aa (-1))).heap.size=W.heap.size+1:=by simp[World.setCell]
 refine⟨⟨?_,?_,?_,?_,?_,?_,?_,by omega,by rw[t];omega,s,?_,?_⟩,?_,?_,by simp,by simp;omega⟩
 ·rw[a _ (by decide)];rfl
 ·rw[a _ (by decide)];rfl
 ·rw[a _ (by decide)];rfl
 ·rw[a _ (by decide)];rfl
 ·rw[a _ (by decide)];rfl
 ·intro o;rw[Cu];exact k o
 ·intro d e q;rw[Bh _ _ _ _ (by intro f;cases f;omega),EW _ _ _ u];exact v d e q
 ·intro n c;rcases j with rfl|rfl
  ·cases c
  ·cases c;refine⟨?_,?_,i,.inl ⟨rfl,rfl⟩,.inl ⟨rfl,rfl⟩,by simp[Jh,Value.ownBlock],by simp[Jh,Value.ownBlock],(fun z w=>by cases w),by simp[Jh,Bv],by simp[Jh,Bv],fun y r=>by cases r⟩
   ·rw[a _ (by decide)];rfl
   ·rw[a _ (by decide)];rfl
 ·intro o g;rcases g with rfl|rfl
  ·rw[a _ (by decide)];rfl
  ·rw[i];rfl
 ·exact(As.refl _ _).setCell _ _
 ·intro n c;rcases j with rfl|rfl
  ·cases c
  ·cases c;exact⟨⟨[],World.ownsRow_nil _ _ _ _⟩,⟨[],World.ownsRow_nil _ _ _ _⟩,fun x l=>by simp[Jh,Value.ownBlock] at l,fun p=>by cases p⟩
end
theorem Afj{T:List Az}(c:AR T)(e:Cj T)(g:(Bd T ⟨0,0,0⟩).2.code=0):
 ((ES T (some Bv) ⟨0,0,0⟩).code,(ES T (some Bv) ⟨0,0,0⟩).at_)=(match D7 Bv (Bd T ⟨0,0,0⟩).1 with|none=>(0,0)|some b=>b):=by
 have f:An T ⟨0,0,0⟩:=c.pos;obtain⟨a,h⟩:=AgH (E:=Bv) c (Abn e) (Wu e) f rfl g;cases d:D7 Bv (Bd T ⟨0,0,0⟩).1 with
 |none=>
  rw[d] at a;have i:=AdQ c (some Bv) f (D0 rfl) a;show(_,_)=((0:Nat),(0:Nat));rw[a,i]
 |some b=>
  rw[d] at a;show(_,_)=b;rw[a,h b d]
theorem Ago(af: ∀(U O cap:Nat)(T:List Az)(V:World),AR T->Cj T->Rz U O cap T V)(s:Af)(w:World):
 Ah 39 #[.string s] w fun c g=>c=.returned (.tuple #[Aa ((B1 s.data.toList).1:Nat),Aa ((B1 s.data.toList).2:Nat)])/\Ay w g:=by
 have A:s.data.toList.length=s.size:=Fo s;by_cases z:600<s.size
 ·have i:Hid (B1 s.data.toList=(1,0)):=by show _=_;unfold B1;rw[Ag (by omega)]
  have ah:(600:Int)<(s.size:Int):=by omega
  clear z A;go_enter func39,ntmps39;go_wp2;go_ret2;rw[i.out];exact⟨rfl,Below.refl _ _⟩
 ·have ah: ¬(600:Int)<(s.size:Int):=by omega
  have l:=YM s w (by omega);cases d:DD s.data.toList with
  |error a0=>
   obtain⟨G,ac⟩:=a0;have i:Hid (B1 s.data.toList=(G,ac)):=by show _=_;unfold B1;rw[Ae (by omega),d]
   have y:Ah 66 #[.string s] w fun c g=>c=.returned (.tuple #[Aw,Aa G,Aa ac])/\Ay w g:=by
    refine l.mono ?_;rintro c g⟨K,⟨ae,av,e,rfl⟩|⟨ay,az,e,rfl,B⟩⟩
    ·rw[d] at e;cases e;exact⟨rfl,K⟩
    ·rw[d] at e;cases e
   have ai:=Xl d;have aj:((G:Int) !=0)=true:=by simp;omega
   clear l d ai z A;go_enter func39,ntmps39;go_wp2_with(go_at_call 66;refine y.mono ?_;rintro c h⟨rfl,k⟩);go_ret2;rw[i.out];exact⟨rfl,k⟩
  |ok T=>
   obtain⟨Y,x⟩:=Na s.data.toList _ _ T (AA _) d;have M:Cj T:=Wa d;have ag:T.length<=601:=by omega
   have ap:=x.pos
   have y:Ah 66 #[.string s] w fun c g=> ∃O cap,c=.returned (.tuple #[Ar O T.length cap,Aa 0,Aa 0])/\Ay w g/\O<g.heap.size/\ ∀a b,(DN T)[a]? =some b->g.cell? (Ac O a)=some b:=by
    refine l.mono ?_;rintro c g⟨K,⟨ae,av,e,rfl⟩|⟨ay,az,e,rfl,B⟩⟩
    ·rw[d] at e;cases e
    ·rw[d] at e;cases e;obtain⟨O,cap,rfl,_,am⟩:=B.form ap;refine⟨O,cap,rfl,K,am,fun a b Z=> ?_⟩;have aa:a<(DN T).length:=(BH.1 Z).1;rw[B.cellAt a (by rw[B.1] at aa;exact aa)];exact Z
   have v:=fun(W:World)(O cap:Nat)(p:O<W.heap.size)(q: ∀a b,(DN T)[a]? =some b->W.cell? (Ac O a)=some b)(m:Option Nm)(P:m=none\/m=some Jh)=>
    Ags (m:=m) x M (af W.heap.size O cap T (W.alloc (.cells (Iq O T.length cap (CU m)) 126)) x M) (Ajg (cap:=cap) ag p q m P 126)
     (by rcases P with rfl|rfl
         ·intro ad J;cases J
         ·intro ad J;cases J;exact⟨by simp[Jh,Bv],by simp[Jh,Bv]⟩)
     (by rw[Cl];rcases P with rfl|rfl<;>rfl) (Gc _ _ _ _)
   have t:=fun(W:World)(O cap:Nat) p q=>v W O cap p q none (.inl rfl);have u:=fun(W:World)(O cap:Nat) p q=>v W O cap p q (some Jh) (.inr rfl);have I:ES T (Ax none) ⟨0,0,0⟩=(Bd T ⟨0,0,0⟩).2:=AfY _;rw[I] at t;have H:ES T (Ax (some Jh)) ⟨0,0,0⟩=ES T (some Bv) ⟨0,0,0⟩:=rfl;rw[H] at u;simp only[CU,Iq] at t u;by_cases n:(Bd T ⟨0,0,0⟩).2.code=0
   ·have i:Hid (B1 s.data.toList=((ES T (some Bv) ⟨0,0,0⟩).code,(ES T (some Bv) ⟨0,0,0⟩).at_)):=by show _=_;rw[Afj x M n];unfold B1;rw[Ae (by omega),d];simp only;rw[Ag n];cases D7 Bv (Bd T ⟨0,0,0⟩).1<;>rfl
    generalize ES T (some Bv) ⟨0,0,0⟩=a4 at*;generalize(Bd T ⟨0,0,0⟩).2=ax at*;clear v I H l d z A Y;go_enter func39,ntmps39;go_wp2_with(first|(go_at_call 66;refine y.mono ?_;rintro c h⟨O,cap,rfl,k,Q,r⟩;have E:Hid (∀a b,(DN T)[a]? =some b->h.cell? (Ac O a)=some b):=r;clear r)|(go_at_call 67;have _q:=F;refine(u D O cap F.out.1 F.out.2).mono ?_;rintro c a5⟨rfl,a2,a3,X,ab,al⟩;have ak:=X.fault;have ao:=X.place;rw[ab.1] at ak;rw[ab.2] at ao)|(go_at_call 67;refine(t h O cap Q E.out).mono ?_;rintro c D⟨rfl,au,aw,j,C,N⟩;have L:=j.fault;rw[C.1,n] at L;have F:Hid (O<D.heap.size/\ ∀a b,(DN T)[a]? =some b->D.cell? (Ac O a)=some b):=⟨j.tlt,j.tok⟩;have a1:=j.lt));go_quiet(fail);go_wp2;go_ret2;rw[i.out];have o:=k.size;refine⟨rfl,?_⟩;have R:Ay w (h.alloc (.cells (Iq O T.length cap 0) 126)):=k.alloc o _;have S:=R.trans (N.toBelow (B:=w.heap.size) (by simp;omega) o);have ar:=S.alloc (by have:=S.size;exact this) (.cells (Iq O T.length cap 1) 126);have aq:=S.size;have f:=ar.trans (al.toBelow (B:=w.heap.size) (by simp;omega) aq);exact⟨f.os,f.tape,f.output,f.size,f.block⟩
   ·have aj:(((Bd T ⟨0,0,0⟩).2.code:Int) !=0)=true:=by simp;omega
    have i:Hid (B1 s.data.toList=((Bd T ⟨0,0,0⟩).2.code,(Bd T ⟨0,0,0⟩).2.at_)):=by show _=_;unfold B1;rw[Ae (by omega),d];simp only;rw[Ae n]
    generalize(Bd T ⟨0,0,0⟩).2=ax at*;clear v I H l d z A Y u n;go_enter func39,ntmps39;go_wp2_with(first|(go_at_call 66;refine y.mono ?_;rintro c h⟨O,cap,rfl,k,Q,r⟩;have E:Hid (∀a b,(DN T)[a]? =some b->h.cell? (Ac O a)=some b):=r;clear r)|(go_at_call 67;refine(t h O cap Q E.out).mono ?_;rintro c D⟨rfl,au,aw,j,C,N⟩;have L:=j.fault;have an:=j.place;rw[C.1] at L;rw[C.2] at an));go_quiet(fail);go_wp2;go_ret2;rw[i.out];have o:=k.size;refine⟨rfl,?_⟩;have R:Ay w (h.alloc (.cells (Iq O T.length cap 0) 126)):=k.alloc o _;have f:=R.trans (N.toBelow (B:=w.heap.size) (by simp;omega) o);exact⟨f.os,f.tape,f.output,f.size,f.block⟩
