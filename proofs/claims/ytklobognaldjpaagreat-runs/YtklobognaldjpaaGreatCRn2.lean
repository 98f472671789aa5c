/- Plain: whoever is a number is a value; what is known of a te -/
import Derived.Test.YtklobognaldjpaaGreatCChk1
set_option maxRecDepth 1000000
set_option maxHeartbeats 4000000
namespace Go.Proofs.YtklobognaldjpaaGreat
open Go.Proofs.Tryz
open Go.RowKit
theorem Ad6{d:List UInt8}{b:TK×Nat×Nat}(a:Cw d=.ok b):b.2.2<=2147483647:=by
 unfold Cw at a;split at a
 ·cases a
 ·split at a
  ·cases a;simp
  ·split at a
   ·split at a
    ·cases a
    ·rename_i c;cases a;unfold Hv at c;simp only;omega
   ·split at a
    ·cases a;simp
    ·split at a
     ·cases a;simp
     ·cases a
theorem Th(c:List UInt8): ∀(k d:Nat)(g:List Az),c.length -d<=k->FB c d=.ok g-> ∀f∈g,f.val<=2147483647
 |0,d,g,l,a=>by rw[Jd (by omega)] at a;cases a;intro f b;simp at b;subst b;show 0<=_;omega
 |k+1,d,g,l,a=>by
  by_cases i:d<c.length
  ·cases h:Cw (c.drop d) with
   |error o=>rw[MZ i h] at a;cases a
   |ok e=>
    rw[Nb i h] at a;have r:=JN (k:=e.1) (n:=e.2.1) (v:=e.2.2) h;have q:=KV c (d+e.2.1);cases j:FB c (B3 c (d+e.2.1)) with
    |error p=>rw[j] at a;cases a
    |ok n=>
     rw[j] at a;cases a;have m:=Th c k (B3 c (d+e.2.1)) n (by omega) j;intro f b;rcases C0.1 b with rfl|b
     ·exact Ad6 h
     ·exact m f b
  ·rw[Jd i] at a;cases a;intro f b;simp at b;subst b;show 0<=_;omega
structure AaR(l:List UInt8)(p:Pr):Prop where
 wh: ∃T:List Az,T.length<=601/\Mu T p
 look:D7 Bv p=none
 len:(BI p).1.length<=4809
def CW(b:List UInt8):Pr:=match DD b with
 |.ok a=>(Bd a ⟨0,0,0⟩).1
 |.error _=>⟨[],[]⟩
theorem OK{c:List UInt8}(b:(B1 c).1=0):AaR c (CW c)/\c.length<=600/\ ∃a,DD c=.ok a/\(Bd a ⟨0,0,0⟩).2.code=0/\CW c=(Bd a ⟨0,0,0⟩).1:=by
 unfold B1 at b;by_cases h:600<c.length
 ·rw[Ag h] at b;cases b
 ·rw[Ae h] at b;cases d:DD c with
  |error j=>
   rw[d] at b;exact absurd b (Tf c _ _ j (AA _) d)
  |ok a=>
   rw[d] at b;simp only at b;obtain⟨o,f⟩:=Na c _ _ a (AA _) d;have k:NW a:=⟨⟨by omega,Tg c (by omega) _ _ a (AA _) d⟩,fun m g _=>Th c _ _ a (AA _) d m g⟩;by_cases e:(Bd a ⟨0,0,0⟩).2.code=0
   ·rw[Ag e] at b;have g:CW c=(Bd a ⟨0,0,0⟩).1:=by unfold CW;rw[d]
    refine⟨?_,by omega,a,rfl,e,g⟩;rw[g];refine⟨⟨a,by omega,Ajn f k (s:=⟨0,0,0⟩) f.pos rfl e⟩,?_,?_⟩
    ·cases i:D7 Bv (Bd a ⟨0,0,0⟩).1 with
     |none=>rfl
     |some n=>
      rw[i] at b;have l:Nz (D7 Bv (Bd a ⟨0,0,0⟩).1):=by unfold D7;exact(LW _ _).or (Jj _ _)
      exact absurd b (l n i)
    ·have:=AiE f (s:=⟨0,0,0⟩) f.pos;omega
   ·rw[Ae e] at b;exact absurd b e
def UO(a:List UInt8)(f:List Int)(b:Int)(w:World)(d:Ending)(i:World):Prop:=
 Ay w i/\
 (((B1 a).1≠0/\d=.returned (.tuple #[.pointer none,Aa ((B1 a).1:Nat),Aa ((B1 a).2:Nat)]))\/
  ((B1 a).1=0/\ ¬(0<=b/\b<=3000)/\d=.returned (.tuple #[.pointer none,Aa 8,Aa 0]))\/
  ((B1 a).1=0/\(0<=b/\b<=3000)/\Ej f=false/\d=.returned (.tuple #[.pointer none,Aa 11,Aa 0]))\/
  ((B1 a).1=0/\(0<=b/\b<=3000)/\Ej f=true/\ ∃e k wc j,∃(h:MR)(g:AW),w.heap.size<=e/\(∀c,h.has c->w.heap.size<=c)/\(∀c,g c->w.heap.size<=c)/\d=.returned (.tuple #[Al e,Aa 0,Aa 0])/\
    MC e k wc (BI (CW a)).1 g i (m0 (BI (CW a)) f) b.toNat 0 false h j))
theorem En.under{w g:World}{f:Value}{h:List Int}(j:En w f h)(c:Ay w g):En g f h:=by
 obtain⟨i,cap,rfl,k,l,a⟩:=j;refine⟨i,cap,rfl,k,l,?_⟩;rcases a with a|⟨b,off,rfl,d,a⟩
 ·exact .inl a
 ·refine .inr ⟨b,off,rfl,CF d c.size,fun e m=> ?_⟩;rw[c.cell (p:=Ac b (off+e)) d];exact a e m
theorem Jx.below{w c:World}{b:Value}{p:Pr}(a:Jx w b p)(e:Ay w c):Jx c b p:=by obtain⟨d,a⟩:=a;exact⟨d,a.keep (Hs e)⟩
theorem Y7{b:List Int}(a:Ej b=true):Ga b:=fun d c=>by unfold Ej at a;rw[List.all_eq_true] at a;simpa using a d c
theorem Adg{w:World}{base:Nat}{j:Value}{a:List Int}(d:w.ownsRow base 21 1 j a.length (a.map (.int .i32))){e:AW}(p: ∀b,base<=b->b<w.heap.size->e b):KL e w j a:=by
 rcases d.2 with⟨k,f⟩|⟨c,cap,Ad,h,l,m,o,n,_⟩
 ·exact⟨none,0,by rw[k,f],by omega,B6 _,.inl (Mi f)⟩
 ·refine⟨some (Ac c 0),cap,h,o,n,.inr ⟨c,0,rfl,p c l (Ju.1 m).1,fun i r g=> ?_⟩⟩;have q:i<a.length:=(BH.1 g).1;rw[h] at d;rw[NU,d.cellAt i (by omega),CC,g];rfl
theorem AfV(s:Af)(W:Value)(d:List Int)(o:Int)(w:World)(T:En w W d)(bc:d.length<=35184372088831):
 Ah 48 #[.string s,W,Aa o] w (UO s.data.toList d o w):=by
 have v:=Agg s w;unfold My at v;generalize Y:s.data.toList=c at*;have O:Hid (s.data.toList=c):=Y;clear Y;by_cases F:(B1 c).1=0
 ·obtain⟨z,ag,B,Z,aa,ab⟩:=OK F;obtain⟨bg,ac,V⟩:=z.wh;obtain⟨a6,R⟩:=U9 V ac z.look (by have:=z.len;omega);have ad:(BI (CW c)).1.length<=1000000:=by have:=z.len;omega
  have ae: ∀a4∈(CW c).globals,NL a4:=by have af:=z.look;unfold D7 at af;exact VE _ _ (Bq af).1 rfl rfl
  have N:Hid (∀a p q gc l n m,Jx a (.agg #[.slice p q gc,.slice l n m]) (CW c)->Ah 72 #[.agg #[.slice p q gc,.slice l n m]] a (Rd (CW c) a)):=by intro a p q gc l n m I;obtain⟨bf,bq,bp,bh,bs,G,ay,az,a0,a1⟩:=I;injection G with G;simp at G;obtain⟨rfl,rfl⟩:=G;exact AbC ay az a0 a1 V ac ae R ad
  have P:Hid (∀j x,(∀B,c.length<=600->DD c=.ok B->(Bd B ⟨0,0,0⟩).2.code=0->Jx j x (Bd B ⟨0,0,0⟩).1)->Jx j x (CW c)):=fun j x ba=>by rw[ab];exact ba B ag Z aa
  have aj:(BI (CW c)).2.2<=1000000:=by have:=R _ (AA _);unfold BI;unfold A3 at this;rw[E7] at this;exact this
  have av:Hid ((BI (CW c)).2.2<=1000000):=aj;have D:Hid ((B1 c).1=0):=F;rw[F,show((0:Nat):Int)=0 from rfl] at v;have E:Hid (En w W d):=T;obtain⟨x,X,bd,_⟩:=T;subst bd;clear z Z aa ab V a6 R ad ae ag aj;by_cases H:0<=o/\o<=3000
  ·have a2: ¬o<0:=by omega
   have a3: ¬o>3000:=by omega
   have A:=fun a(k:Ay w a)=>Aja _ d a (E.out.under k) bc;unfold US at A;obtain⟨fn,rfl⟩: ∃fn:Nat,o=fn:=⟨o.toNat,by omega⟩;by_cases K:Ej d=true
   ·have Q: ∀a,Ay w a->Ah 70 #[.slice x d.length X] a fun e j=>Ay a j/\ ∃h i,e=.returned (.tuple #[.slice h d.length i,.bool true])/\Hid (j.ownsRow a.heap.size 21 1 (.slice h d.length i) d.length (d.map (.int .i32))):=fun a k=>by
     refine(A a k).mono ?_;rintro e j⟨S,⟨_,br,rfl,J⟩|⟨ah,_⟩⟩
     ·obtain⟨h,i,rfl⟩:=GR J;exact⟨S,h,i,rfl,J⟩
     ·rw[K] at ah;cases ah
    have ap:Hid (∀(a t g:World)(y:Obj)(u wc:Nat)(h:Option Addr)(i:Nat),Ay w a->Below (a.alloc y).heap.size (a.alloc y) t->Ay t g->t.ownsRow (a.alloc y).heap.size 21 1 (.slice h d.length i) d.length (d.map (.int .i32))->t.heap.size<=u->u<g.heap.size->(∀am an,(BI (CW c)).1[am]? =some an->g.cell? (Ac u am)=some (Aa (an:Nat)))->
     Ah 71 #[.agg #[Ar u (BI (CW c)).1.length wc,Aa ((BI (CW c)).2.1:Nat),Aa ((BI (CW c)).2.2:Nat)],.slice h d.length i,Aa (fn:Nat)] g fun e j=> ∃M,e=.returned (Al M)/\UO c d fn w (.returned (.tuple #[Al M,Aa 0,Aa 0])) j):=by
     intro a t g y u wc h i b r C J ak U L;have bk:=b.size;have bn:(a.alloc y).heap.size=a.heap.size+1:=by simp
     have bl:=r.size;have bm:=C.size;have bb:KL (fun f=>w.heap.size<=f/\f<g.heap.size) g (.slice h d.length i) d:=Adg (JR J C) (fun f bi a5=>⟨by omega,a5⟩);refine(Afm (Q:=fun f=>w.heap.size<=f/\f<g.heap.size) (fun f k=>k.2) ⟨by omega,U⟩ L bb (Y7 K) av.out).mono ?_;rintro e be⟨rfl,a9,ax,a8,a7⟩;refine⟨g.heap.size+2,rfl,?_,.inr (.inr (.inr ⟨D.out,H,K,g.heap.size+2,u,wc,.slice h d.length i,ax,(fun f=>w.heap.size<=f/\f<g.heap.size),by omega,fun f k=>by have:=a8 f k;omega,fun f k=>k.1,rfl,?_⟩))⟩
     ·exact b.trans ((((Below.refl _ _).alloc b.size y).trans (r.mono (by omega))).trans ((C.mono (by omega)).trans (a9.mono (by omega))))
     ·exact a7
    clear A E O;go_enter func48,ntmps48;go_wp2_with(first|(go_at_call 65;refine v.mono ?_;rintro e a⟨b,p,q,gc,l,n,m,rfl,I⟩;have aq:Hid (Jx a (.agg #[.slice p q gc,.slice l n m]) (CW c)):=P.out _ _ I;clear I)|(go_at_call 70;refine(Q _ (b.trans ((Below.refl _ _).alloc b.size _))).mono ?_;rintro e t⟨r,h,i,rfl,au⟩;have ao:Hid _:=N.out t p q gc l n m (Jx.below (Jx.below aq.out ((Below.refl _ a).alloc (AA _) _)) r);have bo:=r.cell (p:=Ac a.heap.size 0) (by simp);have q1:=r.cell (p:=Ac a.heap.size 1) (by simp))|(go_at_call 72;refine NJ ao.out ?_;rintro e g⟨C,u,wc,rfl,ak,U,L⟩;have ar:Hid _:=ap.out a t g _ u wc h i b r C au.out ak U L;clear L)|(go_at_call 71;refine NJ ar.out ?_;rintro e be⟨M,rfl,aw⟩));refine bodyPost_ret (v:=.tuple #[Al M,Aa 0,Aa 0]) (by simp[results,results48,go_sem]) rfl ?_;go_light;exact aw
   ·have ai:Ej d=false:=by simpa using K
    have Q: ∀a,Ay w a->Ah 70 #[.slice x d.length X] a fun e j=>Ay a j/\e=.returned (.tuple #[Aw,.bool false]):=fun a k=>by
     refine(A a k).mono ?_;rintro e j⟨S,⟨al,_⟩|⟨_,rfl⟩⟩
     ·rw[ai] at al;cases al
     ·exact⟨S,rfl⟩
    clear A E O N P;go_enter func48,ntmps48;go_wp2_with(first|(go_at_call 65;refine v.mono ?_;rintro e a⟨b,p,q,gc,l,n,m,rfl,_⟩)|(go_at_call 70;refine(Q _ (b.trans ((Below.refl _ _).alloc b.size _))).mono ?_;rintro e t⟨r,rfl⟩));refine bodyPost_ret (v:=.tuple #[.pointer none,Aa 11,Aa 0]) (by simp[results,results48,go_sem]) rfl ?_;go_light;exact⟨b.trans (((Below.refl _ _).alloc b.size _).trans (r.mono (by have:=b.size;simp;omega))),.inr (.inr (.inl ⟨D.out,H,ai,rfl⟩))⟩
  ·clear E O N P;by_cases a2:o<0
   ·go_enter func48,ntmps48;go_wp2_with(go_at_call 65;refine v.mono ?_;rintro e a⟨b,p,q,gc,l,n,m,rfl,_⟩);refine bodyPost_ret (v:=.tuple #[.pointer none,Aa 8,Aa 0]) (by simp[results,results48,go_sem]) rfl ?_;go_light;exact⟨b.trans ((Below.refl _ _).alloc b.size _),.inr (.inl ⟨D.out,H,rfl⟩)⟩
   ·have a3:o>3000:=by omega
    go_enter func48,ntmps48;go_wp2_with(go_at_call 65;refine v.mono ?_;rintro e a⟨b,p,q,gc,l,n,m,rfl,_⟩);refine bodyPost_ret (v:=.tuple #[.pointer none,Aa 8,Aa 0]) (by simp[results,results48,go_sem]) rfl ?_;go_light;exact⟨b.trans ((Below.refl _ _).alloc b.size _),.inr (.inl ⟨D.out,H,rfl⟩)⟩
 ·have bj:(((B1 c).1:Int) !=0)=true:=by simp;omega
  obtain⟨x,X,rfl,_⟩:=T;go_enter func48,ntmps48;go_wp2_with(go_at_call 65;refine v.mono ?_;rintro e a⟨b,p,q,gc,l,n,m,rfl,_⟩);refine bodyPost_ret (v:=.tuple #[.pointer none,Aa ((B1 c).1:Nat),Aa ((B1 c).2:Nat)]) (by simp[results,results48,go_sem]) rfl ?_;go_light;exact⟨b.trans ((Below.refl _ _).alloc b.size _),.inl ⟨F,rfl⟩⟩
theorem T1{m:List Nat}{n:Nat}{c l:MS}(a:CP m n c=some l)(u:c.over=none):c.pc<m.length/\(c.calls.length<=30->l.calls.length<=30)/\(c.used<=n->l.used<=n)/\(c.out.length<=60->l.out.length<=60)/\(l.over.isSome=true->l.stack.length<=c.stack.length):=by
 have j:c.stack.dropLast.length<=c.stack.length:=by rw[Ib];omega
 have o:c.stack.dropLast.dropLast.length<=c.stack.length:=by rw[Ib,Ib];omega
 have d: ∀{p:Prop},c.over.isSome=true->p:=fun b=>by rw[u] at b;cases b
 have w:c.pc<m.length:=by
  cases r:m[c.pc]? with
  |none=>unfold CP at a;rw[r] at a;cases a
  |some i=>exact(BH.1 r).1
 refine⟨w,?_⟩;unfold CP at a;split at a
 ·cases a
 ·cases a;exact⟨id,id,id,fun _=>AA _⟩
 ·cases a;split
  ·exact⟨id,id,id,fun _=>AA _⟩
  ·exact⟨id,fun b=>by simp only;omega,id,fun _=>AA _⟩
 ·obtain⟨h,g,rfl⟩:=D5.1 a;exact⟨id,id,id,fun b=>d b⟩
 ·obtain⟨e,f,a⟩:=C7.1 a;obtain⟨h,g,rfl⟩:=D5.1 a;exact⟨id,id,id,fun b=>d b⟩
 ·obtain⟨e,f,a⟩:=C7.1 a;obtain⟨i,k,a⟩:=C7.1 a;split at a
  ·cases a;exact⟨id,id,id,fun _=>j⟩
  ·cases a
 ·obtain⟨e,f,a⟩:=C7.1 a;obtain⟨h,g,rfl⟩:=D5.1 a;exact⟨id,id,id,fun b=>d b⟩
 ·obtain⟨e,f,a⟩:=C7.1 a;obtain⟨i,k,a⟩:=C7.1 a;split at a
  ·cases a;exact⟨id,id,id,fun _=>by simp only[Lq];exact j⟩
  ·cases a
 ·obtain⟨e,f,a⟩:=C7.1 a;obtain⟨s,q,a⟩:=C7.1 a;obtain⟨i,k,rfl⟩:=D5.1 a;split
  ·exact⟨id,id,id,fun _=>j⟩
  ·exact⟨id,id,id,fun b=>d b⟩
 ·obtain⟨i,k,a⟩:=C7.1 a;split at a
  ·obtain⟨h,g,rfl⟩:=D5.1 a;exact⟨id,id,id,fun b=>d b⟩
  ·cases a
 ·obtain⟨h,g,a⟩:=C7.1 a;obtain⟨i,k,a⟩:=C7.1 a;split at a
  ·cases a;exact⟨id,id,id,fun _=>o⟩
  ·cases a
 ·obtain⟨h,g,rfl⟩:=D5.1 a;exact⟨id,id,id,fun b=>d b⟩
 ·obtain⟨h,g,rfl⟩:=D5.1 a;exact⟨id,id,id,fun b=>d b⟩
 ·obtain⟨h,g,rfl⟩:=D5.1 a;exact⟨id,id,id,fun b=>d b⟩
 ·obtain⟨e,f,rfl⟩:=D5.1 a;exact⟨id,id,id,fun _=>AA _⟩
 ·obtain⟨e,f,a⟩:=C7.1 a;obtain⟨i,k,rfl⟩:=D5.1 a;split
  ·exact⟨id,id,id,fun _=>j⟩
  ·exact⟨id,id,id,fun _=>j⟩
 ·obtain⟨e,f,a⟩:=C7.1 a;obtain⟨s,q,a⟩:=C7.1 a;split at a
  ·cases a;exact⟨id,id,id,fun _=>AA _⟩
  ·rename_i x;split at a
   ·cases a;exact⟨fun b=>by simp only[AG,Bg,Bm];omega,id,id,fun _=>AA _⟩
   ·cases a
 ·obtain⟨s,q,rfl⟩:=D5.1 a;exact⟨id,id,id,fun b=>d b⟩
 ·obtain⟨t,v,a⟩:=C7.1 a;split at a
  ·cases a;exact⟨fun b=>by simp only[Ib];omega,id,id,fun _=>by simp only[It];omega⟩
  ·cases a
 ·obtain⟨e,f,a⟩:=C7.1 a;obtain⟨h,g,a⟩:=C7.1 a;obtain⟨t,v,a⟩:=C7.1 a;split at a
  ·cases a;exact⟨fun b=>by simp only[Ib];omega,id,id,fun b=>d b⟩
  ·cases a
 ·obtain⟨i,k,rfl⟩:=D5.1 a;split
  ·exact⟨id,id,id,fun _=>j⟩
  ·exact⟨id,id,fun b=>by simp only[AG,List.length_singleton];omega,fun _=>j⟩
 ·cases a;split
  ·exact⟨id,id,id,fun _=>AA _⟩
  ·exact⟨id,id,id,fun b=>d b⟩
 ·split at a
  ·obtain⟨z,y,a⟩:=C7.1 a;obtain⟨i,k,rfl⟩:=D5.1 a;split
   ·exact⟨id,id,id,fun b=>d b⟩
   ·exact⟨id,id,id,fun _=>o⟩
  ·cases a
theorem Agb{d:List Nat}{b:Nat}(x:d.length<=5000)(w:b<=3000){a f:MS}(e:Cc d b a f):f.over.isSome=true->a.calls.length<=30->a.used<=b-> ∃g,KS d b b g a f false:=by
 induction e with
 |refl a=>exact fun c _ _=>⟨0,.over a c⟩
 | @step a v B h y j e s=>
   intro c i p;obtain⟨z,k,q,_,r⟩:=T1 j h;obtain⟨g,m⟩:=s c (k i) (q p);have n:a.stack.length<=1000000:=by omega
   have o:v.stack.length<=1000000:=by
    cases e with
    |refl=>have:=r c;omega
    |step t A u _=>
     have:=(T1 u t).1;have:=k i;omega
   exact⟨g+1,.step h (fun _ l=>l) n o (by omega) j m⟩
def NZ(b:List UInt8)(c:List Int)(a:Int)(w:World)(d:Ending)(g:World):Prop:=
 Ay w g/\
 (((B1 b).1≠0/\d=.returned (.tuple #[.agg #[Aa 0,Aw,Aa 0],Aa ((B1 b).1:Nat),Aa ((B1 b).2:Nat)]))\/
  ((B1 b).1=0/\ ¬(0<=a/\a<=3000)/\d=.returned (.tuple #[.agg #[Aa 0,Aw,Aa 0],Aa 8,Aa 0]))\/
  ((B1 b).1=0/\(0<=a/\a<=3000)/\Ej c=false/\d=.returned (.tuple #[.agg #[Aa 0,Aw,Aa 0],Aa 11,Aa 0]))\/
  ((B1 b).1=0/\(0<=a/\a<=3000)/\Ej c=true/\ ∃e f,d=.returned (.tuple #[.agg #[Aa ((El (CW b) c a.toNat).1:Nat),.slice e (El (CW b) c a.toNat).2.1.length f,Aa ((El (CW b) c a.toNat).2.2:Nat)],Aa 0,Aa 0])/\
    g.ownsRow w.heap.size 3 1 (.slice e (El (CW b) c a.toNat).2.1.length f) (El (CW b) c a.toNat).2.1.length ((El (CW b) c a.toNat).2.1.map (.int .i64))/\(El (CW b) c a.toNat).2.1.length<=60))
theorem YE{w:World}{base d:Nat}{e:TypeId}{size:Nat}{c:Value}{g:Nat}{h:List Value}(i:w.ownsRow base e size c g h)(k: ∀a,c.ownBlock=some a->d<=a):w.ownsRow d e size c g h:=by
 obtain⟨j,b⟩:=i;refine⟨j,?_⟩;rcases b with b|⟨a,cap,Ad,f,_,l⟩
 ·exact .inl b
 ·exact .inr ⟨a,cap,Ad,f,k a (by rw[f];rfl),l⟩
theorem Ahl{j:List UInt8}{k:List Int}{fn r P wc:Nat}{G:List Nat}{F:AW}{w E e:World}{f:Obj}{b:MS}{u m:MR}{O:Value}{N:Nat}{n:Bool}{g:Option Addr}{h:Nat}(J:(B1 j).1=0)(Q:fn<=3000)(L:Ej k=true)
 (z:Below (w.alloc f).heap.size (w.alloc f) E)(V:(w.alloc f).heap.size<=r)(y: ∀n,u.has n->(w.alloc f).heap.size<=n)(x:MC r P wc G F e b fn N n m O)(d:MM r u m E e)(B:m.ou=.slice g b.out.length h)
 (H:b.over=some (El (CW j) k fn).1)(o:b.out=(El (CW j) k fn).2.1)(I:b.used=(El (CW j) k fn).2.2)(q s t:Value)(l:Obj):
 NZ j k fn w (.returned (.tuple #[.agg #[Aa ((b.over.getD 0:Nat):Int),.slice g b.out.length h,Aa (b.used:Nat)],Aa 0,Aa 0])) ((((e.setCell (Ac w.heap.size 0) q).setCell (Ac w.heap.size 1) s).setCell (Ac w.heap.size 2) t).alloc l):=by
 have U:(w.alloc f).heap.size=w.heap.size+1:=by simp
 have S:=z.size;have T:=d.1.size
 have v:Ay w e:=((Below.refl _ w).alloc (AA _) f).trans ((z.mono (by omega)).trans ⟨d.1.os,d.1.tape,d.1.output,d.1.size,fun D R=>d.1.block D (by omega) (by
  rintro(i|i)
  ·omega
  ·have:=y D i;omega)⟩)
 have C: ∀a,m.ou.ownBlock=some a->w.heap.size+1<=a:=fun a c=>by
  rcases d.2 a (.inr (.inr (.inr c))) with i|i
  ·have:=y a i;omega
  ·omega
 have M:e.ownsRow (w.heap.size+1) 3 1 (.slice g b.out.length h) b.out.length (b.out.map (.int .i64)):=by have:=YE x.rows.ou C;rw[B] at this;exact this
 have A: ∀a,(Value.slice g b.out.length h).ownBlock=some a->w.heap.size+1<=a:=fun a c=>C a (by rw[B];exact c)
 have K:((((e.setCell (Ac w.heap.size 0) q).setCell (Ac w.heap.size 1) s).setCell (Ac w.heap.size 2) t).alloc l).ownsRow w.heap.size 3 1 (.slice g b.out.length h) b.out.length (b.out.map (.int .i64)):=by
  refine World.ownsRow.alloc ?_ l;refine Gs (w:=e) (YE M fun a c=>by have:=A a c;omega) fun a c=> ?_;have p:a≠w.heap.size:=by have:=A a c;omega
  rw[Below.heap_setCell _ _ _ _ p,Below.heap_setCell _ _ _ _ p,Below.heap_setCell _ _ _ _ p]
 refine⟨(((v.setCell (AA _) q).setCell (AA _) s).setCell (AA _) t).alloc (by simp[World.setCell];exact v.size) l,.inr (.inr (.inr ⟨J,by omega,L,g,h,?_,?_,?_⟩))⟩
 ·rw[Lo,<-o,<-I,H];rfl
 ·rw[Lo,<-o];exact K
 ·rw[Lo,<-o];exact x.rows.o60
theorem MD{b:World}{a:Nat}(n:a<b.heap.size){l h i:Value}(p:b.cell? (Ac a 0)=some l)(q:b.cell? (Ac a 1)=some h)(r:b.cell? (Ac a 2)=some i)(c d e:Value)(f:Obj):
 ((((b.setCell (Ac a 0) c).setCell (Ac a 1) d).setCell (Ac a 2) e).alloc f).cell? (Ac a 0)=some c/\((((b.setCell (Ac a 0) c).setCell (Ac a 1) d).setCell (Ac a 2) e).alloc f).cell? (Ac a 1)=some d/\((((b.setCell (Ac a 0) c).setCell (Ac a 1) d).setCell (Ac a 2) e).alloc f).cell? (Ac a 2)=some e:=by
 have g:a<(((b.setCell (Ac a 0) c).setCell (Ac a 1) d).setCell (Ac a 2) e).heap.size:=by simpa[World.setCell] using n
 have ne: ∀{j k:Nat},j≠k->((Ac a j):Addr)≠(Ac a k):=fun o m=>o (by injection m);refine⟨?_,?_,?_⟩
 ·rw[EW _ _ _ g,Bh _ _ _ _ (ne (by omega)),Bh _ _ _ _ (ne (by omega))];exact DW _ _ _ p
 ·rw[EW _ _ _ g,Bh _ _ _ _ (ne (by omega))];exact DW _ _ _ (show _=some h by rw[Bh _ _ _ _ (ne (by omega))];exact q)
 ·rw[EW _ _ _ g];exact DW _ _ _ (show _=some i by rw[Bh _ _ _ _ (ne (by omega)),Bh _ _ _ _ (ne (by omega))];exact r)
theorem Ahh(s:Af)(ah:Value)(l:List Int)(r:Int)(w:World)(ao:En w ah l)(a7:l.length<=35184372088831):
 Ah 19 #[.string s,ah,Aa r] w (NZ s.data.toList l r w):=by
 have aw: ∀b,Ay w (w.alloc b):=fun b=>AP;have O:=fun b=>AfV s ah l r (w.alloc b) (ao.under (aw b)) a7;generalize s.data.toList=y at*;have J: ∀o,(w.alloc (.cells #[Aa 0,Aw,Aa 0] 39)).cell? (Ac w.heap.size o)= #[Value.int .i64 0,Aw,Aa 0][o]? :=fun o=>Cl w _ _ o;have I: ∀o,(w.alloc (.cells #[Aa 0,Aw,Aa 0] 39)).frozen? (Ac w.heap.size o)=false:=fun o=>Gc w _ _ o;have t:w.heap.size<(w.alloc (.cells #[Aa 0,Aw,Aa 0] 39)).heap.size:=by simp
 obtain⟨ax,ay,a8,_⟩:=ao;subst a8;by_cases ab:(B1 y).1=0/\(0<=r/\r<=3000)/\Ej l=true
 ·obtain⟨P,a6,ad⟩:=ab;obtain⟨fn,rfl⟩: ∃fn:Nat,r=fn:=⟨r.toNat,by omega⟩;obtain⟨F,_,_⟩:=OK P;obtain⟨bd,aa,ae⟩:=F.wh;have R:(BI (CW y)).1.length<=5000:=by have:=F.len;omega
  obtain⟨al,_⟩:=U9 ae aa F.look R;obtain⟨h,ar,S,au,av⟩:=Zk ae aa F.look R l fn;obtain⟨a9,ap⟩:=Agb R (by omega) ar (by rw[S];rfl) (B6 _) (B6 _)
  have V:Hid (∀b,Ah 48 #[.string s,.slice ax l.length ay,Aa (fn:Nat)] (w.alloc b) fun m z=>Below (w.alloc b).heap.size (w.alloc b) z/\ ∃c x wc ai,∃(d:MR)(u:AW),m=.returned (.tuple #[Al c,Aa 0,Aa 0])/\Hid ((w.alloc b).heap.size<=c/\(∀v,d.has v->(w.alloc b).heap.size<=v)/\
   Ah 49 #[Al c,Aa (fn:Nat)] z (Rf c x wc (BI (CW y)).1 u fn (0+fn) false d z h))):=fun b=>by
   refine(O b).mono ?_;rintro m z⟨G,a|a|a|a⟩
   ·exact absurd P a.1
   ·exact absurd a6 a.2.1
   ·rw[ad] at a;cases a.2.2.1
   ·obtain⟨_,_,_,c,x,wc,ai,d,u,Y,Z,bf,rfl,am⟩:=a;rw[Lo] at am;refine⟨G,c,x,wc,ai,d,u,rfl,Y,Z,?_⟩;have af:(m0 (BI (CW y)) l).used=0:=rfl;have:=Ac3 am (by omega) al (units:=fn) (n:=a9) (b:=false) (m':=h) (by rw[af,NU];exact ap) (by rw[af];omega);rw[af] at this;exact this
  have a0:Hid (∀(e f:World)(c x wc:Nat)(u:AW)(d q:MR)(T:Value)(B:Option Addr)(C:Nat)(i j k:Value)(g:Obj),Below (w.alloc (.cells #[Aa 0,Aw,Aa 0] 39)).heap.size (w.alloc (.cells #[Aa 0,Aw,Aa 0] 39)) e->(w.alloc (.cells #[Aa 0,Aw,Aa 0] 39)).heap.size<=c->(∀v,d.has v->(w.alloc (.cells #[Aa 0,Aw,Aa 0] 39)).heap.size<=v)->q.ou=.slice B h.out.length C->MC c x wc (BI (CW y)).1 u f h fn (0+fn) false q T->MM c d q e f->
   NZ y l fn w (.returned (.tuple #[.agg #[Aa ((h.over.getD 0:Nat):Int),.slice B h.out.length C,Aa (h.used:Nat)],Aa 0,Aa 0])) ((((f.setCell (Ac w.heap.size 0) i).setCell (Ac w.heap.size 1) j).setCell (Ac w.heap.size 2) k).alloc g)):=
   fun e f c x wc u d q T B C i j k g E aj W X a2 a3=>Ahl P (by omega) ad E aj W a2 a3 X S au av i j k g
  have a1:Hid (∀(e f:World)(c:Nat)(d q:MR),Below (w.alloc (.cells #[Aa 0,Aw,Aa 0] 39)).heap.size (w.alloc (.cells #[Aa 0,Aw,Aa 0] 39)) e->(w.alloc (.cells #[Aa 0,Aw,Aa 0] 39)).heap.size<=c->(∀v,d.has v->(w.alloc (.cells #[Aa 0,Aw,Aa 0] 39)).heap.size<=v)->MM c d q e f->w.heap.size<f.heap.size/\ ∀o,f.cell? (Ac w.heap.size o)= #[Value.int .i64 0,Aw,Aa 0][o]? /\f.frozen? (Ac w.heap.size o)=false):=fun e f c d q E aj W X=>by have:=E.size;obtain⟨ak,be,a4⟩:=X.keeps (k:=w.heap.size) (by omega) (by omega) (fun m=>by have:=W _ m;omega);exact⟨a4,fun o=>⟨by rw[World.cell?_of_block (w:=e) ak,E.cell (p:=Ac w.heap.size o) t];exact J o,by rw[World.frozen?_of_block (w:=e) ak,E.frozen (p:=Ac w.heap.size o) t];exact I o⟩⟩
  have bi:h.over.isSome=true:=by rw[S];rfl
  clear O J I ar ap F ae al ad P S au av R aa;go_enter func19,ntmps19;go_wp2_with(first|(go_at_call 48;refine NJ (V.out _) ?_;rintro m e⟨n,c,x,wc,ai,d,u,rfl,D⟩)|(go_at_call 49;refine NJ D.out.2.2 ?_;rintro m f⟨q,T,B,C,aq,rfl,an,ac⟩;obtain⟨ag,Q⟩:=a1.out _ _ _ _ _ n D.out.1 D.out.2.1 ac;obtain⟨K,ba⟩:=Q 0;obtain⟨L,bb⟩:=Q 1;obtain⟨M,bc⟩:=Q 2;have U:Hid _:=fun i j k g=>a0.out e f c x wc u d q T B C i j k g n D.out.1 D.out.2.1 aq an ac;clear Q aq an ac));have a5:=fun i j k g=>(MD ag K L M i j k g).1;have Y:=fun i j k g=>(MD ag K L M i j k g).2.1;have Z:=fun i j k g=>(MD ag K L M i j k g).2.2;refine bodyPost_ret (v:=.tuple #[.agg #[Aa ((h.over.getD 0:Nat):Int),.slice B h.out.length C,Aa (h.used:Nat)],Aa 0,Aa 0]) (by simp[results,results19,go_sem,a5,Y,Z]) rfl ?_;go_light;exact U.out _ _ _ _
 ·have V:Hid (∀b,Ah 48 #[.string s,.slice ax l.length ay,Aa r] (w.alloc b) fun m z=>Below (w.alloc b).heap.size (w.alloc b) z/\ ∃A p:Nat,A≠0/\m=.returned (.tuple #[.pointer none,Aa (A:Nat),Aa (p:Nat)])/\Hid (∀N,Ay w N->NZ y l r w (.returned (.tuple #[.agg #[Aa 0,Aw,Aa 0],Aa (A:Nat),Aa (p:Nat)])) N)):=fun b=>by
   refine(O b).mono ?_;rintro m z⟨G,a|a|a|a⟩
   ·exact⟨G,_,_,a.1,a.2,fun N H=>⟨H,.inl ⟨a.1,rfl⟩⟩⟩
   ·exact⟨G,8,0,by omega,a.2.2,fun N H=>⟨H,.inr (.inl ⟨a.1,a.2.1,rfl⟩)⟩⟩
   ·exact⟨G,11,0,by omega,a.2.2.2,fun N H=>⟨H,.inr (.inr (.inl ⟨a.1,a.2.1,a.2.2.1,rfl⟩))⟩⟩
   ·exact absurd ⟨a.1,a.2.1,a.2.2.1⟩ ab
  clear O ab;go_enter func19,ntmps19;go_wp2_with(go_at_call 48;refine NJ (V.out _) ?_;rintro m e⟨n,A,p,bg,rfl,U⟩;have bh:((A:Int) !=0)=true:=(by simp;omega);have K:=(n.cell (p:=Ac w.heap.size 0) t).trans (J 0);have L:=(n.cell (p:=Ac w.heap.size 1) t).trans (J 1);have M:=(n.cell (p:=Ac w.heap.size 2) t).trans (J 2);have ba:=(n.frozen (p:=Ac w.heap.size 0) t).trans (I 0);have bb:=(n.frozen (p:=Ac w.heap.size 1) t).trans (I 1);have bc:=(n.frozen (p:=Ac w.heap.size 2) t).trans (I 2));refine bodyPost_ret (v:=.tuple #[.agg #[Aa 0,Aw,Aa 0],Aa (A:Nat),Aa (p:Nat)]) (by simp[results,results19,go_sem,K,L,M]) rfl ?_;go_light;have az:Ay w e:=(aw _).trans (n.mono (Rx t));exact U.out _ (((az.setCell (AA _) _).setCell (AA _) _).setCell (AA _) _)
