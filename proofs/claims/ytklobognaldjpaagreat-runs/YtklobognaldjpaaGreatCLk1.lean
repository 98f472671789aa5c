/- Plain: procs, funcs, the program: where the syntax is right, -/
import Derived.Test.YtklobognaldjpaaGreatCLook4
import Derived.Maps.Own
import Derived.Maps.Keyed
import Derived.Maps.Views
import Derived.StringKeys
import Derived.Maps.OwnSet
import Derived.Deep.RegionWith
import Derived.Deep.QuietTactic
import Derived.BigQuiet
set_option maxHeartbeats 1000000
set_option maxRecDepth 100000
namespace Go.Proofs.YtklobognaldjpaaGreat
open Go.Proofs.Tryz
section
variable{T:List Az}{E:Ao}(O:AR T)
include O
theorem Vv: ∀(n:Nat)(acc:List A8)(s:PS),An T s->s.code=0->(Bp T n acc s).2.code=0->Aj T Bx (Bp T n acc s).2=false-> ∀k,
 (if FN (Ad T s) then Gd (T.drop (s.next+1)) k else k)=k+((Bp T n acc s).1.length -acc.length)
 |0,acc,s,hg,hc,h,a,k=>by have e:FN (Ad T s)=false:=a;rw[Ae (by rw[e];simp)];simp[Bp]
 |n+1,acc,s,hg,hc,h,a,k=>by
  rw[Bp] at h a⊢;by_cases hs:Aj T Bx s=true
  ·rw[Ag hs] at h a⊢;have e:FN (Ad T s)=true:=hs;rw[Ag e];have hga:=AD O hg hs Ai;have q:Av T (Ab s):=A4 hc;have hI:=EY O hga q;have c:=K8 O hI.good hI.stk h;obtain⟨g,V,l⟩:=Ko c;have d:=EZ O hga V (by decide);have f:=Vv n (acc++[(Ap T (Ab s)).1]) (Ap T (Ab s)).2 hI.good c h a (k+1);have b:(Ap T (Ab s)).2=Ab (Ab s):=by rw[l]
   have o:(Ad T (Ab s)).kind=.name:=by simpa[AN] using V
   have i:T.drop (s.next+1)=Ad T (Ab s)::T.drop (s.next+1+1):=JD hga;have j:T.drop (s.next+1+1)=Ad T (Ab (Ab s))::T.drop (s.next+1+1+1):=JD d;rw[i,j,Gd,Ag o];rw[b] at f;have r:(if FN (Ad T (Ab (Ab s)))=true then Gd (T.drop (s.next+1+1+1)) (k+1) else k+1)=_:=f;rw[r,b];have p:(acc++[(Ap T (Ab s)).1]).length=acc.length+1:=by simp
   rw[p];have u:acc.length+1<=(Bp T n (acc++[(Ap T (Ab s)).1]) (Ab (Ab s))).1.length:=by obtain⟨t,m,_⟩:=QF (T:=T) O n (acc++[(Ap T (Ab s)).1]) ⟨[],[],none,false⟩ (Ab (Ab s)) d g (by rw[<-b];exact h);rw[m];simp
   omega
  ·rw[Ae hs] at h a⊢
   have e:FN (Ad T s)=false:=by
    have:Aj T Bx s=false:=by simpa using hs
    exact this
   rw[Ae (by rw[e];simp)];simp
omit O in
theorem X8: ∀(n:Nat)(acc:List A8)(s:PS),T.length<=s.next+n->An T s->AR T->s.code=0->Aj T Bx (Bp T n acc s).2=false
 |0,acc,s,I,hg,_,_=>by have:s.next<T.length:=hg;omega
 |n+1,acc,s,I,hg,O,hc=>by
  rw[Bp];by_cases hs:Aj T Bx s=true
  ·rw[Ag hs];have hga:=AD O hg hs Ai;have hI:=EY O hga (A4 hc);by_cases h2:(Ap T (Ab s)).2.code=0
   ·exact X8 n _ _ (by have:s.next+1<=(Ap T (Ab s)).2.next:=hI.le;omega) hI.good O h2
   ·have e:=PY (T:=T) n (acc++[(Ap T (Ab s)).1]) (Ap T (Ab s)).2;have h3:=(KX O n none (Ap T (Ab s)).2 hI.good hI.stk);have h4:(Bp T n (acc++[(Ap T (Ab s)).1]) (Ap T (Ab s)).2).2=(Ap T (Ab s)).2:=by have:=h3.still h2;rw[e] at this;exact this
    rw[h4];exact IT O hI.stk h2 Ai
  ·rw[Ae hs];simpa using hs
theorem Vw{s:PS}(hg:An T s)(hc:s.code=0)(h:(Cz T s).2.code=0)(j:Aj T AJ s=true-> ¬(Ad T s).kind=.name):DB T s=(Cz T s).1.length:=by
 unfold DB;unfold Cz at h⊢;by_cases hs:Aj T AJ s=true
 ·rw[Ag hs,JD hg];have:=j hs;cases n:T.drop (s.next+1) with
  |nil=>rfl
  |cons q p=>rw[Gd,Ae this];rfl
 ·rw[Ae hs] at h⊢;have hI:=EY O hg (D0 hc);have c:(Bp T T.length [(Ap T s).1] (Ap T s).2).2.code=0:=h;have a:=K8 O hI.good hI.stk c;obtain⟨_,V,f⟩:=Ko a;have b:(Ap T s).2=Ab s:=by rw[f]
  have hga:=EZ O hg V (by decide);have k:(Ad T s).kind=.name:=by simpa[AN] using V
  have e:T.drop (s.next+1)=Ad T (Ab s)::T.drop (s.next+1+1):=JD hga;rw[JD hg,e,Gd,Ag k];have i:Aj T Bx (Bp T T.length [(Ap T s).1] (Ap T s).2).2=false:=X8 T.length _ _ (by omega) hI.good O a;have d:=Vv O T.length [(Ap T s).1] (Ap T s).2 hI.good a c i 1;rw[b] at d;have l:(if FN (Ad T (Ab s))=true then Gd (T.drop (s.next+1+1)) 1 else 1)=_:=d;rw[show(0:Nat)+1=1 from rfl,l];show _=(Bp T T.length [(Ap T s).1] (Ap T s).2).1.length;rw[b];have o:1<=(Bp T T.length [(Ap T s).1] (Ab s)).1.length:=by obtain⟨m,g,_⟩:=QF (T:=T) O T.length [(Ap T s).1] ⟨[],[],none,false⟩ (Ab s) hga (by rw[<-b];exact a) (by rw[<-b];exact c);rw[g];simp
  simp only[Bg,Bm];omega
theorem AgI{kind:Nat}{s:PS}(hg:An T s)(hs:Av T s)(x: ∀s,An T s->Aj T AJ s=true-> ¬(Ad T s).kind=.name)(h:(ET T s).2.code=0)(a:Ro)(z:a.name=(Ap T s).1)(b:a.params=(ET T s).1):
 EV T (EJ T (some E) kind s) (Fg E kind a) (ET T s).2:=by
 have h2:=IC O hg hs;have t:ET T s=Cz T (Bn T s):=rfl;rw[t] at h b⊢;have n:=LI O none h2.good h2.stk;rw[Qw] at n;have c:(Bn T s).code=0:=n.code h;obtain⟨r,_,_⟩:=Bs (show(Am T Bl (Ap T s).2).code=0 from c);obtain⟨_,_,u⟩:=Ko r;have w:(Ap T s).1=((Ad T s).text,(Ad T s).pos):=by rw[u]
 have o:DB T (Bn T s)=a.params.length:=by rw[b];exact Vw O h2.good c h (x _ h2.good)
 have j:=QD (T:=T) (E:=E) (here:=false) (s0:=s) (kind:=kind) (args:=DB T (Bn T s)) c;rw[o] at j;have p:=Ji E false (Ad T s).text (Ad T s).pos kind a.params.length;have m:DZ T (some E) kind s=((BM T (some E) false s kind a.params.length (Bn T s)).1,FC T (some E) s a.params.length (BM T (some E) false s kind a.params.length (Bn T s)).2):=by unfold DZ;rw[o]
 have v:(DZ T (some E) kind s).2=after T ((Be E false (Ad T s).text (Ad T s).pos kind a.params.length).2.or (Gk a.params.length (Ad T s).pos)) (Bn T s):=by rw[m];show FC T (some E) s a.params.length (BM T (some E) false s kind a.params.length (Bn T s)).2=_;rw[j.st,AeM c p]
 have l:(Be E false (Ad T s).text (Ad T s).pos kind a.params.length).2.or (Gk a.params.length (Ad T s).pos)=none->(DZ T (some E) kind s).1=some (Be E false (Ad T s).text (Ad T s).pos kind a.params.length).1:=by intro i;rw[m];exact j.env (Bq i).1
 have e:=p.or (OE a.params.length (Ad T s).pos);unfold Fg;rw[z,w];simp only;generalize hF:(Be E false (Ad T s).text (Ad T s).pos kind a.params.length).2.or (Gk a.params.length (Ad T s).pos)=f at*;generalize(Be E false (Ad T s).text (Ad T s).pos kind a.params.length).1=q at*;show EV T (Hx T (DZ T (some E) kind s).1 (DZ T (some E) kind s).2) _ _;rw[v];unfold Hx;unfold Cz at h b⊢;by_cases d:Aj T AJ (Bn T s)=true
 ·rw[Ag d] at b⊢;have y:a.params=[]:=b;rw[y,AX];simp only[Option.or_none];cases f with
  |none=>
   rw[Ag (show Aj T AJ (after T none (Bn T s))=true from d)];exact⟨rfl,fun _=>l rfl⟩
  |some g=>
   have k: ¬Aj T AJ (after T (some g) (Bn T s))=true:=by rw[JV O Ai e];simp
   rw[Ae k];exact⟨(JI O _ (LR O g.1 g.2 h2.good).1 (fun _=>rfl)).still (e g rfl),fun i=>by cases i⟩
 ·rw[Ae d] at h b⊢;have k: ¬Aj T AJ (after T f (Bn T s))=true:=by rw[JV O Ai e];simp[d]
  rw[Ae k];have:=AgD (E:=q) O e l h2.good h2.stk h;rw[b];exact⟨this.1,this.2⟩
theorem Qd{n:Nat}{a:List A8}{s:PS}(hg:An T s)(hs:Av T s)(h:(B5 T n a s).2.code=0):s.code=0:=by have e:=Ow (T:=T) n a s;exact(Ja O n none s hg hs).code (by rw[e];exact h)
theorem Y1: ∀(n:Nat)(acc:List A8)(E:Ao)(s:PS),An T s->s.code=0->(B5 T n acc s).2.code=0-> ∃c,(B5 T n acc s).1=acc++c/\EV T (Et T n (some E) s) (AX E c) (B5 T n acc s).2
 |0,acc,E,s,hg,hc,h=>⟨[],by simp[B5],rfl,fun _=>rfl⟩
 |n+1,acc,E,s,hg,hc,h=>by
  rw[B5] at h;rw[B5,Et];by_cases hs:Aj T CJ s=true
  ·rw[Ag hs] at h;rw[Ag hs,Ag hs];have hga:=AD O hg hs Ai;have k:Av T (Ab s):=A4 hc;have hI:=SE O hga k;have f:=B4 O (f:=AQ) Ai hI.good hI.stk;have i:=Qd O f.good f.stk h;obtain⟨l,_,_⟩:=Bs i;have e:=YU (E:=E) O hga k l;have g:=IQ (Bf T (Ab s)).1 E;obtain⟨c,m,j⟩:=Y1 n (acc++(Bf T (Ab s)).1) (AX E (Bf T (Ab s)).1).1 (Am T AQ (Bf T (Ab s)).2) f.good i h;refine⟨(Bf T (Ab s)).1++c,by rw[m];simp,?_⟩;rw[Qf];cases d:(AX E (Bf T (Ab s)).1).2 with
   |none=>
    have b:=e.st;rw[d,G5] at b;rw[b,e.env d];exact⟨j.st,j.env⟩
   |some a=>
    rw[d] at g;have b:=e.st;rw[d] at b;have o:Am T AQ (C1 T (some E) (Ab s)).2=stop T a.1 a.2:=by rw[b];exact(Dq O Ai (fun _=>rfl)).2 (g a rfl)
    have q:Aj T CJ (stop T a.1 a.2)=false:=IT O (fun _=>rfl) (g a rfl) Ai;rw[o,Ti q];exact⟨rfl,fun p=>by cases p⟩
  ·rw[Ae hs,Ae hs];exact⟨[],by simp,rfl,fun _=>rfl⟩
theorem AgJ{kind:Nat}{s:PS}(hg:An T s)(hs:Av T s)(p: ∀s,An T s->Aj T AJ s=true-> ¬(Ad T s).kind=.name)(h:(Cx T s).2.code=0)(a:Ro)(t:a.name=(Ap T s).1)(r:a.params=(ET T s).1)(o:a.locals=(Cx T s).1):
 EV T (DS T (some E) kind s) ((AX (Fg E kind a).1 a.locals).1,(Fg E kind a).2.or (AX (Fg E kind a).1 a.locals).2) (Cx T s).2:=by
 have c:=Oo O none kind hg hs;rw[Za] at c;have d:=B4 O (f:=AJ) Ai c.good c.stk;have g:=Qd O d.good d.stk (show(B5 T T.length [] (Am T AJ (ET T s).2)).2.code=0 from h);obtain⟨k,_,_⟩:=Bs g;have i:=AgI (E:=E) (kind:=kind) O hg hs p k a t r;have e:=TD E kind a;obtain⟨f,l,j⟩:=Y1 O T.length [] (Fg E kind a).1 (Am T AJ (ET T s).2) d.good g h;have m:a.locals=f:=by rw[o];show(B5 T T.length [] (Am T AJ (ET T s).2)).1=f;rw[l];rfl
 rw[m];show EV T (Et T T.length (EJ T (some E) kind s).1 (Am T AJ (EJ T (some E) kind s).2)) _ (B5 T T.length [] (Am T AJ (ET T s).2)).2;rw[i.st,Gv O Ai e];cases V:(Fg E kind a).2 with
 |none=>
  rw[i.env V,G5];exact⟨j.st,j.env⟩
 |some b=>
  rw[V] at e;have q:Aj T CJ (stop T b.1 b.2)=false:=IT O (fun _=>rfl) (e b rfl) Ai;show EV T (Et T T.length _ (stop T b.1 b.2)) _ _;rw[Ti q];exact⟨rfl,fun n=>by cases n⟩
theorem YQ(a:Br T){f:Option (Nat×Nat)}(b:Nz f){m:Option Ao}(c:f=none->m=some E){s:PS}(hg:An T s)(hc:s.code=0)(h:(AK T (AL T none 14) s).2.code=0):
 (AK T (AL T m 14) (after T f s)).2=after T (f.or (Bz E (AK T (AL T none 14) s).1)) (AK T (AL T none 14) s).2:=by
 cases f with
 |none=>rw[c rfl];exact AgA O a hg hc h
 |some d=>exact(JZ O (Ev O m 14) _ (fun _=>rfl)).2 (b d rfl)
theorem Y3(t:Br T){kind:Nat}{s:PS}(hg:An T s)(hs:Av T s)(x: ∀s,An T s->Aj T AJ s=true-> ¬(Ad T s).kind=.name)(h:(AZ T s).2.code=0):
 EV T (CO T (some E) kind s) (DJ E kind (AZ T s).1) (AZ T s).2:=by
 have b:=PT O none kind hg hs;rw[Zb] at b;have c:=B4 O (f:=Bc) Ai b.good b.stk;have k:(BT T (Cx T s).2).2=Am T By (AK T (AL T none 14) (Am T Bc (Cx T s).2)).2:=by unfold BT;rw[Hg]
 have p:(BT T (Cx T s).2).1=(AK T (AL T none 14) (Am T Bc (Cx T s).2)).1:=by unfold BT;rw[Hg]
 obtain⟨g,_,_⟩:=Bs (show(Am T AQ (BT T (Cx T s).2).2).code=0 from h);rw[k] at g;obtain⟨i,_,_⟩:=Bs g;have w:=GN O none 14 c.good c.stk;have j:=w.code i;obtain⟨o,_,_⟩:=Bs j;have l:=AgJ (E:=E) (kind:=kind) O hg hs x o (AZ T s).1 rfl rfl rfl;have e:=(TD E kind (AZ T s).1).or (IQ (AZ T s).1.locals (Fg E kind (AZ T s).1).1);have m:=l.st;have d:=l.env;simp only at m d;have q:(AZ T s).1.body=(AK T (AL T none 14) (Am T Bc (Cx T s).2)).1:=p;have r:(AZ T s).2=Am T AQ (Am T By (AK T (AL T none 14) (Am T Bc (Cx T s).2)).2):=by show Am T AQ (BT T (Cx T s).2).2=_;rw[k]
 generalize v:(Fg E kind (AZ T s).1).2.or (AX (Fg E kind (AZ T s).1).1 (AZ T s).1.locals).2=f at*;have u:=YQ (E:=(AX (Fg E kind (AZ T s).1).1 (AZ T s).1.locals).1.enter) O t e (m:=(DS T (some E) kind s).1.map Ao.enter) (fun a=>by rw[d a];rfl) c.good j i;have n:=e.or (Jj (AX (Fg E kind (AZ T s).1).1 (AZ T s).1.locals).1.enter (AK T (AL T none 14) (Am T Bc (Cx T s).2)).1);unfold DJ;rw[v,q,r];refine⟨?_,fun a=> ?_⟩
 ·show Am T AQ (Am T By (AK T (AL T ((DS T (some E) kind s).1.map Ao.enter) 14) (Am T Bc (DS T (some E) kind s).2)).2)=_;rw[m,Gv O Ai e,u,Gv O Ai n,Gv O Ai n]
 ·show(DS T (some E) kind s).1.map Ao.leave=some _;rw[d (Bq a).1];rfl
theorem SD{s:PS}(hg:An T s)(hs:Av T s):CZ T s (BP T s).2:=by have:=Ol O none hg hs;rw[WF] at this;exact this
theorem MT{s:PS}(hg:An T s)(hs:Av T s):CZ T s (AZ T s).2:=by have:=LJ O none 2 hg hs;rw[TR] at this;exact this
theorem I9: ∀(n:Nat)(b:Option Ao)(s:PS),An T s->Av T s->CZ T s (D6 T n b s).2
 |0,b,s,hg,hs=>.refl hg hs
 |n+1,b,s,hg,hs=>by
  rw[D6];split
  ·rename_i h;have a:=Fz O Ai hg hs h;have h2:=Ol O b a.good a.stk;exact(a.trans h2).trans (I9 n _ _ h2.good h2.stk)
  ·split
   ·rename_i h;have a:=Fz O Ai hg hs h;have h2:=LJ O b 2 a.good a.stk;exact(a.trans h2).trans (I9 n _ _ h2.good h2.stk)
   ·split
    ·rename_i h;have a:=Fz O Ai hg hs h;have h2:=LJ O b 3 a.good a.stk;exact(a.trans h2).trans (I9 n _ _ h2.good h2.stk)
    ·exact .refl hg hs
theorem Ke{n:Nat}{a:List Gl}{s:PS}(hg:An T s)(hs:Av T s)(h:(BC T n a s).2.code=0):s.code=0:=by have e:=KW (T:=T) n a s;exact(I9 O n none s hg hs).code (by rw[e];exact h)
theorem SC{n:Nat}{a:Option Ao}{s:PS}(hs:Av T s)(hc:s.code≠0):D6 T n a s=(a,s):=by
 cases n with
 |zero=>rfl
 |succ n=>
  rw[D6,Ae (by rw[IT O hs hc Ai];simp),Ae (by rw[IT O hs hc Ai];simp),Ae (by rw[IT O hs hc Ai];simp)]
theorem TP{n:Nat}{a:Option Ao×PS}{b:Ao}{f:Option (Nat×Nat)}{e:PS}(d:EV T a (b,f) e)(l:Nz f){L:Ao×Option (Nat×Nat)}{i:PS}(h:EV T (D6 T n (some b) e) L i):
 EV T (D6 T n a.1 a.2) (L.1,f.or L.2) i:=by
 cases f with
 |none=>
  have c:a.2=e:=d.st;have j:a.1=some b:=d.env rfl;rw[c,j];exact⟨h.st,h.env⟩
 |some g=>
  have c:a.2=stop T g.1 g.2:=d.st;rw[c,SC O (fun _=>rfl) (l g rfl)];exact⟨rfl,fun k=>by cases k⟩
theorem QE(f:Br T)(i: ∀s,An T s->Aj T AJ s=true-> ¬(Ad T s).kind=.name): ∀(n:Nat)(acc:List Gl)(E:Ao)(s:PS),An T s->s.code=0->(BC T n acc s).2.code=0-> ∃a,(BC T n acc s).1=acc++a/\EV T (D6 T n (some E) s) (AO E a) (BC T n acc s).2
 |0,acc,E,s,hg,hc,h=>⟨[],by simp[BC],rfl,fun _=>rfl⟩
 |n+1,acc,E,s,hg,hc,h=>by
  rw[BC] at h;rw[BC,D6];have d:Av T (Ab s):=A4 hc;by_cases c:Aj T CJ s=true
  ·rw[Ag c] at h;rw[Ag c,Ag c];have hga:=AD O hg c Ai;have hI:=SD O hga d;have b:=Ke O hI.good hI.stk h;obtain⟨a,e,g⟩:=QE f i n (acc++(BP T (Ab s)).1) (AO E (BP T (Ab s)).1).1 (BP T (Ab s)).2 hI.good b h;refine⟨(BP T (Ab s)).1++a,by rw[e];simp,?_⟩;rw[XA];exact TP O (AgE (E:=E) O hga d b) (LW _ _) g
  ·rw[Ae c] at h;rw[Ae c,Ae c];by_cases h2:Aj T F0 s=true
   ·rw[Ag h2] at h;rw[Ag h2,Ag h2];have hga:=AD O hg h2 Ai;have hI:=MT O hga d;have b:=Ke O hI.good hI.stk h;obtain⟨a,e,g⟩:=QE f i n (acc++[.proc (AZ T (Ab s)).1]) (DJ E 2 (AZ T (Ab s)).1).1 (AZ T (Ab s)).2 hI.good b h;refine⟨.proc (AZ T (Ab s)).1::a,by rw[e];simp,?_⟩;rw[AO,Ce];exact TP O (Y3 (E:=E) (kind:=2) O f hga d i b) (Qq _ _ _) g
   ·rw[Ae h2] at h;rw[Ae h2,Ae h2];by_cases h3:Aj T GO s=true
    ·rw[Ag h3] at h;rw[Ag h3,Ag h3];have hga:=AD O hg h3 Ai;have hI:=MT O hga d;have b:=Ke O hI.good hI.stk h;obtain⟨a,e,g⟩:=QE f i n (acc++[.func (AZ T (Ab s)).1]) (DJ E 3 (AZ T (Ab s)).1).1 (AZ T (Ab s)).2 hI.good b h;refine⟨.func (AZ T (Ab s)).1::a,by rw[e];simp,?_⟩;rw[AO,Ce];exact TP O (Y3 (E:=E) (kind:=3) O f hga d i b) (Qq _ _ _) g
    ·rw[Ae h3,Ae h3];exact⟨[],by simp,rfl,fun _=>rfl⟩
theorem AgH(o:Br T)(F: ∀s,An T s->Aj T AJ s=true-> ¬(Ad T s).kind=.name){s:PS}(hg:An T s)(hc:s.code=0)(h:(Bd T s).2.code=0):
 (ES T (some E) s).code=(match D7 E (Bd T s).1 with|none=>0|some a=>a.1)/\(∀a,D7 E (Bd T s).1=some a->(ES T (some E) s).at_=a.2):=by
 have q:=I9 O T.length none s hg (D0 hc);rw[KW T.length [] s] at q;have p:CZ T s (BJ T s).2:=q;have e:=B4 O (f:=Bc) Ai p.good p.stk;have C:=GN O none 14 e.good e.stk;have m:(BT T (BJ T s).2).2=Am T By (AK T (AL T none 14) (Am T Bc (BJ T s).2)).2:=by unfold BT;rw[Hg]
 have z:(BT T (BJ T s).2).1=(AK T (AL T none 14) (Am T Bc (BJ T s).2)).1:=by unfold BT;rw[Hg]
 have b:(Dm T (Am T DR (BT T (BJ T s).2).2)).code=0:=h
 have t:(Am T DR (BT T (BJ T s).2).2).code=0:=by
  unfold Dm at b;split at b
  ·exact b
  ·unfold AI at b;simp only at b;split at b
   ·cases b
   ·rename_i H;exact absurd b H
 obtain⟨i,_,_⟩:=Bs t;rw[m] at i;obtain⟨j,_,_⟩:=Bs i;have k:=C.code j;obtain⟨u,_,_⟩:=Bs k;obtain⟨c,v,r⟩:=QE O o F T.length [] E s hg hc u;have x:(Bd T s).1.globals=c:=by show(BC T T.length [] s).1=c;rw[v];rfl
 have y:(Bd T s).1.body=(AK T (AL T none 14) (Am T Bc (BJ T s).2)).1:=z;have g:=LW c E;have B:=YQ (E:=(AO E c).1) O o g (m:=(D6 T T.length (some E) s).1) r.env e.good k j;have d:=g.or (Jj (AO E c).1 (AK T (AL T none 14) (Am T Bc (BJ T s).2)).1);have n:D7 E (Bd T s).1=(AO E c).2.or (Bz (AO E c).1 (AK T (AL T none 14) (Am T Bc (BJ T s).2)).1):=by unfold D7;rw[x,y]
 have A:ES T (some E) s=Dm T (after T (D7 E (Bd T s).1) (Am T DR (Am T By (AK T (AL T none 14) (Am T Bc (BJ T s).2)).2))):=by show Dm T (Am T DR (Am T By (AK T (AL T (D6 T T.length (some E) s).1 14) (Am T Bc (D6 T T.length (some E) s).2)).2))=_;rw[r.st,Gv O Ai g];rw[show(BC T T.length [] s).2=(BJ T s).2 from rfl,B,Gv O Ai d,Gv O Ai d,n]
 rw[A];rw[<-n] at d;cases D:D7 E (Bd T s).1 with
 |none=>
  refine⟨?_,fun a f=>by cases f⟩;rw[G5,<-m];exact b
 |some a=>
  rw[D] at d;have f:=d a rfl
  have l:Dm T (after T (some a) (Am T DR (Am T By (AK T (AL T none 14) (Am T Bc (BJ T s).2)).2)))=stop T a.1 a.2\/Dm T (after T (some a) (Am T DR (Am T By (AK T (AL T none 14) (Am T Bc (BJ T s).2)).2)))=AI T 4 (stop T a.1 a.2):=by
   unfold Dm;split
   ·exact .inl rfl
   ·exact .inr rfl
  rw[show AI T 4 (stop T a.1 a.2)=stop T a.1 a.2 from GM 4 (fun _=>rfl) f] at l;have w:Dm T (after T (some a) (Am T DR (Am T By (AK T (AL T none 14) (Am T Bc (BJ T s).2)).2)))=stop T a.1 a.2:=by rcases l with h|h<;>exact h
  rw[w];exact⟨rfl,fun I G=>by cases G;rfl⟩
end
structure Ds where
 g:Af->Nat×Nat
 l:Af->Nat×Nat
 res:Af
def Ds.find(L:Ds)(n:Af):Nat×Nat:=if(L.l n).1=0 then L.g n else L.l n
def Io(a:List Sy)(n:Af):Nat×Nat:=
 match A9 a n with
 |none=>(0,0)
 |some k=>((a.getD k default).kind+1,(a.getD k default).args)
def Np(E:Ao):Af:=
 match E.inside with
 |none=>⟨#[]⟩
 |some k=>if(E.glob.getD k default).kind=3 then(E.glob.getD k default).name else⟨#[]⟩
structure C8(L:Ds)(E:Ao):Prop where
 g: ∀n,L.g n=Io E.glob n
 l: ∀n,L.l n=Io E.here n
 res:L.res=Np E
 vars: ∀y∈E.here,y.kind=0
theorem Sm{b:List Sy}{n:Af}: ∀{a k:Nat},DQ b n a=some k->k<a
 |0,k,h=>by simp[DQ] at h
 |a+1,k,h=>by
  rw[DQ] at h;split at h
  ·simp at h;omega
  ·have:=Sm h;omega
theorem Ac9{E:Ao}(a: ∀b∈E.here,b.kind=0){n:Af}{k:Nat}(h:A9 E.here n=some k):(E.here.getD k default).kind=0:=by have V:k<E.here.length:=Sm h;refine a _ ?_;rw[Dg,Bb V];exact D4 V
section
variable{L:Ds}{E:Ao}(h:C8 L E)(n:Af)(k:Nat)
include h n k
theorem C8.find_kind:(L.find n).1=k+1↔(E.kindIx n).1=k:=by
 unfold Ds.find Ao.kindIx;rw[h.l,h.g];unfold Io;cases b:A9 E.here n with
 |some a=>
  have V:=Ac9 h.vars b;simp only[Nat.add_eq_zero_iff,Nat.one_ne_zero,and_false,ID];rw[V];constructor
  ·intro h2;show(0:Int)=k;omega
  ·intro h2;have h3:(0:Int)=k:=h2;omega
 |none=>
  simp only[Hr];cases h2:A9 E.glob n with
  |none=>simp
  |some a=>
   show(E.glob.getD a default).kind+1=k+1↔(((E.glob.getD a default).kind:Nat):Int)=(k:Int);omega
theorem C8.find_args(V:k=2\/k=3)(a:(E.kindIx n).1=k):(L.find n).2=E.args n:=by
 unfold Ao.kindIx at a;unfold Ds.find Ao.args;rw[h.l,h.g];unfold Io;cases b:A9 E.here n with
 |some c=>rw[b] at a;rcases V with rfl|rfl<;>simp at a
 |none=>
  simp only[Hr];cases h2:A9 E.glob n with
  |none=>rfl
  |some c=>rfl
end
theorem Vb:(⟨#[]⟩:Af).toList=[]:=by rw[EU]
theorem C8.res_yes{L:Ds}{E:Ao}(h:C8 L E){n:Af}(I:n.toList≠[])(e:(n.toList==L.res.toList)=true)(p:Nat):GD E n p=none:=by
 have a:n.toList=L.res.toList:=by simpa using e
 unfold GD;split
 ·rfl
 ·rename_i b;rw[h.res] at a;unfold Np at a;unfold Ao.isRes at b;cases c:E.inside with
  |none=>rw[c] at a;exact absurd (a.trans Vb) I
  |some k=>
   rw[c] at a b;simp only at a b;by_cases h3:(E.glob.getD k default).kind=3
   ·rw[Ag h3] at a
    have d:(A9 E.here n).isNone=false:=by
     cases g:(A9 E.here n).isNone with
     |false=>rfl
     |true=>exact absurd (by rw[g,RX h3,<-a];simp) b
    unfold Dz
    have V:(E.kindIx n).1=((0:Nat):Int):=by
     unfold Ao.kindIx;cases f:A9 E.here n with
     |none=>rw[f] at d;cases d
     |some i=>rfl
    rw[Ag V]
   ·rw[Ae h3] at a;exact absurd (a.trans Vb) I
theorem C8.res_no{L:Ds}{E:Ao}(h:C8 L E){n:Af}(a:(n.toList==L.res.toList)=false)(p:Nat):GD E n p=Dz E n p 0:=by
 unfold GD;split
 ·rename_i b;exfalso;rw[h.res] at a;unfold Np at a;unfold Ao.isRes at b;cases c:E.inside with
  |none=>rw[c] at b;cases b
  |some k=>
   rw[c] at a b;simp only at a b;simp only[NG,PE] at b;obtain⟨⟨h3,h4⟩,_⟩:=b;rw[Ag h3] at a;have d:(E.glob.getD k default).name.toList=n.toList:=by simpa using h4
   rw[d] at a;simp at a
 ·rfl
theorem VU(b:List Sy)(c:Sy)(n:Af): ∀a,a<=b.length->DQ (b++[c]) n a=DQ b n a
 |0,_=>rfl
 |a+1,d=>by
  rw[DQ,DQ,VU b c n a (by omega)];have e:(b++[c]).getD a default=b.getD a default:=by rw[Dg,Dg,CR (by omega)]
  rw[e]
theorem ZO(a:List Sy)(b:Sy)(n:Af):Io (a++[b]) n=if(b.name.toList==n.toList)=true then(b.kind+1,b.args) else Io a n:=by
 have c:(a++[b]).getD a.length default=b:=by rw[Dg,CS (AA _)];simp
 have d:A9 (a++[b]) n=if(b.name.toList==n.toList)=true then some a.length else A9 a n:=by unfold A9;rw[AG,show a.length+[b].length=a.length+1 from rfl,DQ,c,VU a b n _ (AA _)]
 unfold Io;rw[d];by_cases h:(b.name.toList==n.toList)=true
 ·rw[Ag h,Ag h];simp only;rw[c]
 ·rw[Ae h,Ae h];cases f:A9 a n with
  |none=>rfl
  |some k=>
   have V:k<a.length:=Sm f;simp only;have e:(a++[b]).getD k default=a.getD k default:=by rw[Dg,Dg,CR (by omega)]
   rw[e]
theorem ZP(a:List Sy)(n:Af):(Io a n).1=0↔A9 a n=none:=by
 unfold Io;cases h:A9 a n with
 |none=>simp
 |some k=>simp
def Ik(f:Af->Nat×Nat)(n:Af)(s:Nat×Nat):Af->Nat×Nat:=fun k=>if(n.toList==k.toList)=true then s else f k
theorem C8.addGlob{L:Ds}{E:Ao}(h:C8 L E)(a:E.inside=none)(n:Af)(kind args:Nat):C8 {L with g:=Ik L.g n (kind+1,args)} (E.add false ⟨n,kind,args⟩):=by
 refine⟨fun k=> ?_,h.l,?_,h.vars⟩
 ·show Ik L.g n (kind+1,args) k=Io (E.glob++[⟨n,kind,args⟩]) k;rw[ZO];unfold Ik;rw[h.g]
 ·rw[show L.res=Np E from h.res];unfold Np;show _=(match E.inside with|none=>_|some k=>_);rw[a]
theorem C8.addHere{L:Ds}{E:Ao}(h:C8 L E)(n:Af):C8 {L with l:=Ik L.l n (1,0)} (E.add true ⟨n,0,0⟩):=by
 refine⟨h.g,fun k=> ?_,h.res,fun b c=> ?_⟩
 ·show Ik L.l n (1,0) k=Io (E.here++[⟨n,0,0⟩]) k;rw[ZO];unfold Ik;rw[h.l]
 ·have d:b∈E.here++[⟨n,0,0⟩]:=c;rcases BD.1 d with a|a
  ·exact h.vars b a
  ·simp at a;subst a;rfl
def AF(f:Option (Nat×Nat))(s:Nat×Nat):Nat×Nat:=if s.1=0 then(match f with|none=>s|some a=>a) else s
theorem FT(f a:Option (Nat×Nat))(b:Nz f)(s:Nat×Nat):AF a (AF f s)=AF (f.or a) s:=by
 unfold AF;by_cases h:s.1=0
 ·rw[Ag h,Ag h];cases f with
  |none=>simp[h]
  |some c=>simp[b c rfl]
 ·rw[Ae h,Ae h,Ae h]
theorem Gu(s:Nat×Nat):AF none s=s:=by unfold AF;split<;>rfl
open Go.RowKit
def Ci(s:Nat×Nat):Value:=.agg #[Aa s.1,Aa s.2]
def O0:Value->Option (DataW Value×List MemPlace):=fun a=>some (.held a,[])
def Dh(w:World)(b n:Nat)(f:Af->Nat×Nat):Prop:=
 ∃a:DataW Value,w.ownsMap prog 9 O0 b n a/\Maps.IsMap a/\ ∀key:Af,key.size<=maxLen->a.atKey (.string key.data.toList) (.held (Ci (0,0)))=.held (Ci (f key))
theorem Tryz.keyedStr:Maps.Keyed prog 9:=Maps.string_keyed underlying9
theorem Dh.lt{w:World}{b n:Nat}{f:Af->Nat×Nat}(h:Dh w b n f):b<w.heap.size:=by obtain⟨c,a,_⟩:=h;exact a.lt
section
variable{w X:World}{b n:Nat}{f:Af->Nat×Nat}
theorem Dh.grown{row:Option Nat}(h:Dh w b n f)(hg:w.grownBy X row)(d:some b≠row):Dh X b n f:=by obtain⟨a,c,h2,h3⟩:=h;exact⟨a,c.kept hg d,h2,h3⟩
theorem Dh.block(h:Dh w b n f)(i:X.heap[b]? =w.heap[b]?):Dh X b n f:=by obtain⟨a,⟨c,clock,d,h4,e,g⟩,h2,h3⟩:=h;exact⟨a,⟨c,clock,by rw[i];exact d,h4,e,g⟩,h2,h3⟩
end
theorem Dh.par{U:Nat}{w X:World}{b n:Nat}{f:Af->Nat×Nat}(h:Dh w b n f)(V:As U w X)(a:b≠U):Dh X b n f:=h.block (V.block b h.lt a)
theorem Tr(w:World):Dh (w.alloc (.map #[] 0)) w.heap.size 0 (fun _=>(0,0)):=
 ⟨.map [],World.ownsMap_made w _ _ _,Maps.isMap_empty,fun _ _=>rfl⟩
theorem Tryz.zeroSym(w:World):(zeroValue 240).run prog w=.ok (Ci (0,0)) w:=by
 have h:(prog.info? 240).map (fun a=>a.zero)=some (some (Ci (0,0))):=by kernel_rfl
 obtain⟨a,b,c⟩:=D5.1 h;simp[zeroValue,typeInfo,b,c]
section
variable{w:World}{b n:Nat}{f:Af->Nat×Nat}(h:Dh w b n f){key:Af}(V:key.size<=maxLen)
include h V
theorem Dh.lookup:
 (Instr.lookup 201 (.map (some b)) (.string key) false).run prog w=.ok (Ci (f key)) w:=by
 obtain⟨e,c,_,h3⟩:=h;obtain⟨i,g,d,a⟩:=c.lookup Tryz.keyedStr underlying201 (Tryz.zeroSym w) (zd:=.held (Ci (0,0))) (zp:=[]) rfl (WideMaps.keyOf_string_mk underlying9 V);rw[h3 key V] at a;unfold O0 at a;simp only[Pl,J8,DataW.held.injEq] at a;rw[<-a.1];exact d
theorem Dh.update(I:n<maxLen)(s:Nat×Nat):
 ∃X,(Instr.mapUpdate 201 (.map (some b)) (.string key) (Ci s)).run prog w=.ok () X/\Dh X b (n+1) (Ik f key s)/\w.grownBy X (some b):=by
 obtain⟨o,j,h2,h3⟩:=h;have g:=WideMaps.keyOf_string_mk (P:=prog) underlying9 V;obtain⟨X,m,h4,k⟩:=j.update Tryz.keyedStr underlying201 I g (val:=Ci s) (d:=.held (Ci s)) (ps:=[]) rfl;refine⟨X,m,⟨_,h4,h2.put _ _,fun c l=> ?_⟩,k⟩;unfold Ik;by_cases e:(key.toList==c.toList)=true
 ·have a:key.toList=c.toList:=by simpa using e
  rw[Ag e];rw[EU,EU] at a;rw[<-a];exact Maps.atKey_put_same h2 (Tryz.keyedStr.key g) _ _
 ·rw[Ae e];have a:c.data.toList≠key.data.toList:=fun d=>e (by rw[EU,EU,d];simp);rw[Maps.atKey_put_other (by intro d;injection d with i;exact a i)];exact h3 c l
end
structure PL(U Z J K:Nat)(Y:Option Nat)(w:World)(c:Nat×Nat)(L:Ds):Prop where
 code:w.cell? (Ac U 0)=some (Aa c.1)
 at_:w.cell? (Ac U 1)=some (Aa c.2)
 gl:w.cell? (Ac U 2)=some (.map (some Z))
 lo:w.cell? (Ac U 3)=some (.map Y)
 rs:w.cell? (Ac U 4)=some (.string L.res)
 frz: ∀o,w.frozen? (Ac U o)=false
 gmap:Dh w Z J L.g
 lmap: ∀b,Y=some b->Dh w b K L.l
 lnil:Y=none-> ∀n,L.l n=(0,0)
 gne:Z≠U
 lne: ∀b,Y=some b->b≠U/\b≠Z
section
variable{U Z J K:Nat}{Y:Option Nat}{w X:World}{c:Nat×Nat}{L:Ds}
section
variable(h:PL U Z J K Y w c L)
include h
theorem PL.lt:U<w.heap.size:=De h.code
theorem PL.below(a:Ay w X):PL U Z J K Y X c L:=by
 have e: ∀o,X.cell? (Ac U o)=w.cell? (Ac U o):=fun o=>a.cell (p:=Ac U o) h.lt
 exact⟨by rw[e];exact h.code,by rw[e];exact h.at_,by rw[e];exact h.gl,by rw[e];exact h.lo,by rw[e];exact h.rs,fun o=>by rw[a.frozen (p:=Ac U o) h.lt];exact h.frz o,
  h.gmap.block (a.block Z h.gmap.lt),fun b d=>(h.lmap b d).block (a.block b (h.lmap b d).lt),h.lnil,h.gne,h.lne⟩
theorem PL.setTell(c:Nat×Nat):PL U Z J K Y ((w.setCell (Ac U 0) (Aa c.1)).setCell (Ac U 1) (Aa c.2)) c L:=by
 have d: ∀b,b≠U->((w.setCell (Ac U 0) (Aa c.1)).setCell (Ac U 1) (Aa c.2)).heap[b]? =w.heap[b]? :=fun b a=>by rw[Below.heap_setCell _ _ _ _ a,Below.heap_setCell _ _ _ _ a]
 refine⟨?_,?_,?_,?_,?_,?_,h.gmap.block (d _ h.gne),fun b a=>(h.lmap b a).block (d _ (h.lne b a).1),h.lnil,h.gne,h.lne⟩
 ·rw[Bh _ _ _ _ (by simp)];exact DW _ _ _ h.code
 ·exact DW _ _ _ (by rw[Bh _ _ _ _ (by simp)];exact h.at_)
 ·rw[Bh _ _ _ _ (by simp),Bh _ _ _ _ (by simp)];exact h.gl
 ·rw[Bh _ _ _ _ (by simp),Bh _ _ _ _ (by simp)];exact h.lo
 ·rw[Bh _ _ _ _ (by simp),Bh _ _ _ _ (by simp)];exact h.rs
 ·intro o;rw[Cu,Cu];exact h.frz o
theorem Oz(k p:Nat):
 Ah 148 #[Al U,Aa k,Aa p] w fun e X=>e=.returned A6/\PL U Z J K Y X (AF (some (k,p)) c) L/\As U w X:=by
 have hc:=h.code;have f:=h.at_;have b:=h.frz 0;have d:=h.frz 1;by_cases a:c.1=0
 ·have e:AF (some (k,p)) c=(k,p):=by simp[AF,a]
  rw[e];rw[a] at hc;clear e;go_enter func148,ntmps148;go_wp2;go_end0;exact⟨rfl,h.setTell (k,p),((As.refl _ _).setCell _ _).setCell _ _⟩
 ·have e:AF (some (k,p)) c=c:=by simp[AF,a]
  rw[e];have g:((c.1:Int)==0)=false:=by simp;omega
  clear e a;go_enter func148,ntmps148;go_wp2;go_end0;exact⟨rfl,h,As.refl _ _⟩
end
theorem Yf(w:World){key:Af}(V:key.size<=maxLen):(Instr.lookup 201 (.map none) (.string key) false).run prog w=.ok (Ci (0,0)) w:=
 Maps.look_nil false Tryz.keyedStr underlying201 (Tryz.zeroSym w) (WideMaps.keyOf_string_mk underlying9 V)
theorem V1(h:PL U Z J K Y w c L){n:Af}(I:n.size<=maxLen)(p:Nat):
 Ah 192 #[Al U,.agg #[.string n,Aa p]] w fun e X=>e=.returned (Ci (L.find n))/\Ay w X:=by
 have B:=h.lt;have z:=h.gl;have A:=h.lo;have r: ∀a d,Ay w ((w.alloc a).alloc d).drew:=fun a d=>(AP.alloc (by simp) _).drew;have j: ∀a d f,Ay w (((w.alloc a).alloc d).alloc f).drew:=fun a d f=>((AP.alloc (by simp) _).alloc (by simp;omega) _).drew;have u: ∀a d f,(Instr.lookup 201 (.map (some Z)) (.string n) false).run prog (((w.alloc a).alloc d).alloc f).drew.drew=.ok (Ci (L.g n)) (((w.alloc a).alloc d).alloc f).drew.drew:=fun a d f=>(h.below (j a d f).drew).gmap.lookup I
 have s: ∀a d,(Instr.lookup 201 (.map Y) (.string n) false).run prog ((w.alloc a).alloc d).drew=.ok (Ci (L.l n)) ((w.alloc a).alloc d).drew:=fun a d=>by
  cases g:Y with
  |none=>rw[h.lnil g n];exact Yf _ I
  |some b=>exact((h.below (r a d)).lmap b g).lookup I
 have t: ∀a d f,(Instr.lookup 201 (.map Y) (.string n) false).run prog (((w.alloc a).alloc d).alloc f).drew=.ok (Ci (L.l n)) (((w.alloc a).alloc d).alloc f).drew:=fun a d f=>by
  cases g:Y with
  |none=>rw[h.lnil g n];exact Yf _ I
  |some b=>exact((h.below (j a d f)).lmap b g).lookup I
 have x: ∀a d f,(((w.alloc a).alloc d).alloc f).cell? (Ac U 3)=some (.map Y):=fun a d f=>(h.below (j a d f)).lo;have v: ∀a d f,(((w.alloc a).alloc d).alloc f).cell? (Ac U 2)=some (.map (some Z)):=fun a d f=>(h.below (j a d f)).gl;have y: ∀a q d f,(((w.alloc (.cells a q)).alloc d).alloc f).cell? (Ac w.heap.size 0)=a[0]? :=fun a q d f=>by rw[EW _ _ _ (by simp;omega),EW _ _ _ (by simp)];exact Cl w a q 0
 have l:Hid (L.find n=if(L.l n).1=0 then L.g n else L.l n):=rfl;unfold Ci at*;generalize(L.g n)=o at*;generalize(L.l n)=k at*;clear r j;by_cases i:k.1=0
 ·have m:Hid (L.find n=o):=by show _=_;rw[l.out,Ag i]
  rw[i] at s t;clear i l;go_enter func192,ntmps192;go_wp2;go_region;all_goals go_wp2
  all_goals go_region
  all_goals go_wp2
  all_goals refine bodyPost_ret (v:=.agg #[Aa (o.1:Nat),Aa (o.2:Nat)]) (by simp[results,results192,go_sem]) rfl ⟨by rw[m.out],?_⟩
  all_goals exact(((AP.alloc (by simp) _).alloc (by simp;omega) _).drew).drew
 ·have m:Hid (L.find n=k):=by show _=_;rw[l.out,Ae i]
  have C:((k.1:Int) !=0)=true:=by simp;omega
  clear i l;go_enter func192,ntmps192;go_wp2;go_region;all_goals go_wp2
  all_goals refine bodyPost_ret (v:=.agg #[Aa (k.1:Nat),Aa (k.2:Nat)]) (by simp[results,results192,go_sem]) rfl ⟨by rw[m.out],?_⟩
  all_goals exact((AP.alloc (by simp) _).alloc (by simp;omega) _).drew
theorem Below.drewN'(b:Nat)(w:World){a:Nat}:Below a w (w.drewN b):=⟨rfl,rfl,rfl,AA _,fun _ _=>rfl⟩
theorem ZN(a b:Int)(w:World):(Instr.field 240 (.agg #[Aa a,Aa b]) 0).run prog w=.ok (Aa a) w:=by kernel_rfl
theorem Aiy(a b:Int)(w:World):(Instr.field 240 (.agg #[Aa a,Aa b]) 1).run prog w=.ok (Aa b) w:=by kernel_rfl
def DP(U Z J K:Nat)(Y:Option Nat)(L:Ds)(c:Nat×Nat)(w:World)(e:Ending)(X:World):Prop:=
 e=.returned A6/\PL U Z J K Y X c L/\As U w X
section
variable(h:PL U Z J K Y w c L){n:Af}(I:n.size<=maxLen)
include h I
theorem NC(p k:Nat):
 Ah 171 #[Al U,.agg #[.string n,Aa p],Aa ((k+1:Nat):Int)] w (DP U Z J K Y L (AF (if(L.find n).1=k+1 then none else some (6,p)) c) w):=by
 have s:=ZN;have u:=h.lt;have f: ∀b,Ay w (w.alloc b):=fun b=>AP;have hF:=fun b=>V1 (h.below (f b)) I p;unfold Ci at hF;generalize(L.find n)=g at*;by_cases d:g.1=k+1
 ·rw[Ag d,Gu];have q:((g.1:Int) !=((k+1:Nat):Int))=false:=by simp;omega
  clear d;go_enter func171,ntmps171;go_wp2_with(go_at_call 192;refine(hF _).mono ?_;rintro e l⟨rfl,a⟩);go_end0;have j:Ay w l:=(f _).trans (a.mono (by simp));exact⟨rfl,h.below j,As.of_below j⟩
 ·rw[Ae d];have q:((g.1:Int) !=((k+1:Nat):Int))=true:=by simp;omega
  clear d;go_enter func171,ntmps171;go_wp2_with(go_at_call 192;refine(hF _).mono ?_;rintro e l⟨rfl,a⟩;have i:=(h.below (f _)).below a;have r:=(a.cell (p:=Ac w.heap.size 1) (by simp)).trans (Cl w _ _ 1);have t:=i.lt);go_region_with (go_at_call 148;refine(Oz (i.below (Below.refl _ _).drew) 6 p).mono ?_;rintro e v⟨rfl,m,o⟩)
  all_goals go_wp2
  all_goals go_end0
  all_goals exact⟨rfl,m,((As.of_below ((f _).trans (a.mono (by simp)))).drewN 1).trans o⟩
theorem AiG(p:Nat):
 Ah 169 #[Al U,.agg #[.string n,Aa p]] w (DP U Z J K Y L (AF (if(n.toList==L.res.toList)=true then none else(if(L.find n).1=0+1 then none else some (6,p))) c) w):=by
 have m:=h.lt;have o:=h.rs;have b: ∀a,Ay w (w.alloc a):=fun a=>AP;have k: ∀a,(w.alloc a).cell? (Ac U 4)=some (.string L.res):=fun a=>(h.below (b a)).rs;have i: ∀a d,Ah 171 #[Al U,.agg #[.string n,Aa p],Aa 1] ((w.alloc a).drewN d) (DP U Z J K Y L (AF (if(L.find n).1=0+1 then none else some (6,p)) c) ((w.alloc a).drewN d)):=fun a d=>NC (h.below ((b a).trans (Below.drewN' d (w.alloc a)))) I p 0;cases l:(n.toList==L.res.toList) with
 |true=>
  rw[Ag rfl,Gu];go_enter func169,ntmps169;go_wp2;go_quiet(fail);go_wp2;go_end0;exact⟨rfl,h.below ((b _).trans (Below.drewN' _ _)),As.of_below ((b _).trans (Below.drewN' _ _))⟩
 |false=>
  rw[Ae (by simp)];generalize(if(L.find n).1=0+1 then none else some (6,p))=f at*;go_enter func169,ntmps169;go_wp2;go_quiet(fail);go_wp2_with(go_at_call 171;refine(i _ _).mono ?_;rintro e q⟨rfl,g,j⟩);go_end0;exact⟨rfl,g,(As.of_below ((b _).trans (Below.drewN' _ _))).trans j⟩
end
end
