/- Plain: nothing is missing in a program that was read. Plain: -/
import Derived.Test.YtklobognaldjpaaGreatCWh1
namespace Go.Proofs.YtklobognaldjpaaGreat
open Go.Proofs.Tryz
def J3(T:List Az)(a:Gl):Prop:=AaY a/\Up T a
structure Mu(T:List Az)(p:Pr):Prop where
 globals: ∀g∈p.globals,J3 T g
 len:p.globals.length<=T.length
 body:p.body.length<=602/\DI p.body
section
variable{T:List Az}(V:AR T)(Y:NW T)
include V Y
omit V in
theorem Aat{s:PS}(hg:An T s)(h:(AE T s).2.code=0):J3 T (AE T s).1:=by
 unfold AE at h⊢;by_cases hb:Aj T BL (Ap T s).2=true
 ·rw[Ag hb] at h⊢;have c1:=(Bs h).1;have c2:=(Nj c1).1;exact⟨Pb Y hg (show(Ap T s).2.code=0 from c2),trivial⟩
 ·rw[Ae hb] at h⊢;exact⟨Pb Y hg h,trivial⟩
omit Y in
theorem Aak{s:PS}(hg:An T s)(hs:Av T s)(h:(AE T s).2.code=0):s.next+1<=(AE T s).2.next:=by
 have h1:=EY V hg hs;unfold AE at h⊢;by_cases hb:Aj T BL (Ap T s).2=true
 ·rw[Ag hb] at h⊢;have h2:=Fz V Ai h1.good h1.stk hb;have h3:=On V h2.good h2.stk;have h4:=B4 V (f:=Cn) Ai h3.good h3.stk;have c1:=(Bs h).1;have c2:=(Nj c1).1;have U:=IM V (show(Ap T s).2.code=0 from c2) hs;show s.next+1<=(Am T Cn (BV T (Ab (Ap T s).2)).2).next
  have:=h2.le;have:=h3.le;have:=h4.le;omega
 ·rw[Ae hb] at h⊢;show s.next+1<=(Ap T s).2.next
  rw[IM V h hs];exact AA _
theorem Aau: ∀(b:Nat)(a:List Gl)(s:PS),(∀c∈a,J3 T c)->An T s->s.code=0->(Bw T b a s).2.code=0->(∀c∈(Bw T b a s).1,J3 T c)/\(Bw T b a s).1.length+s.next<=a.length+(Bw T b a s).2.next
 |0,a,s,d,hg,g,h=>⟨d,AA _⟩
 |b+1,a,s,d,hg,g,h=>by
  rw[Bw] at h⊢;by_cases hs:Aj T Bx s=true
  ·rw[Ag hs] at h⊢;have f:=AD V hg hs Ai;have i:Av T (Ab s):=A4 g;have e:=MP V f i;have c1:=MV V e.good e.stk h
   have j:=Aau b (a++[(AE T (Ab s)).1]) (AE T (Ab s)).2 (fun c k=>by
    rcases BD.1 k with h1|h1
    ·exact d c h1
    ·simp at h1;subst h1;exact Aat Y f c1) e.good c1 h
   have U:=Aak V f i c1;have l:(Ab s).next=s.next+1:=rfl
   refine⟨j.1,?_⟩;have:=j.2;rw[AG] at this;simp only[Bg,Bm] at this;omega
  ·rw[Ae hs];exact⟨d,AA _⟩
theorem Ajj{s:PS}(hg:An T s)(hs:Av T s)(h:(BP T s).2.code=0):(∀b∈(BP T s).1,J3 T b)/\(BP T s).1.length+s.next<=(BP T s).2.next:=by
 have c:(Am T AQ (Bw T T.length [(AE T s).1] (AE T s).2).2).code=0:=h;have c1:=(Bs c).1;have a:=MP V hg hs;have c2:=MV V a.good a.stk c1;have e:=Aau V Y T.length [(AE T s).1] (AE T s).2 (fun b d=>by simp at d;subst d;exact Aat Y hg c2) a.good c2 c1;have U:=Aak V hg hs c2;refine⟨e.1,?_⟩;have h2:=e.2;show(Bw T T.length [(AE T s).1] (AE T s).2).1.length+s.next<=(Am T AQ (Bw T T.length [(AE T s).1] (AE T s).2).2).next
 rw[(Bs c).2.2];show _<=(Bw T T.length [(AE T s).1] (AE T s).2).2.next+1
 simp only[Bg,Bm] at h2;omega
theorem Aay: ∀(b:Nat)(a:List A8)(s:PS),GA a->An T s->s.code=0->(Bp T b a s).2.code=0->GA (Bp T b a s).1/\(Bp T b a s).1.length+s.next<=a.length+(Bp T b a s).2.next
 |0,a,s,c,hg,e,h=>⟨c,AA _⟩
 |b+1,a,s,c,hg,e,h=>by
  rw[Bp] at h⊢;by_cases hs:Aj T Bx s=true
  ·rw[Ag hs] at h⊢;have f:=AD V hg hs Ai;have g:Av T (Ab s):=A4 e;have d:=EY V f g;have c1:=K8 V d.good d.stk h
   have i:=Aay b (a++[(Ap T (Ab s)).1]) (Ap T (Ab s)).2 (fun k j=>by
    rcases BD.1 j with h1|h1
    ·exact c k h1
    ·simp at h1;subst h1;exact Pb Y f c1) d.good c1 h
   have U:=IM V c1 g;have l:(Ab s).next=s.next+1:=rfl
   refine⟨i.1,?_⟩;have:=i.2;rw[AG] at this;simp only[Bg,Bm] at this;omega
  ·rw[Ae hs];exact⟨c,AA _⟩
theorem Aaz{s:PS}(hg:An T s)(hs:Av T s)(h:(Bf T s).2.code=0):GA (Bf T s).1/\(Bf T s).1.length+s.next<=(Bf T s).2.next:=by
 have a:=EY V hg hs;have b:(Bp T T.length [(Ap T s).1] (Ap T s).2).2.code=0:=h;have c2:=K8 V a.good a.stk b;have d:=Aay V Y T.length [(Ap T s).1] (Ap T s).2 (fun e c=>by simp at c;subst c;exact Pb Y hg c2) a.good c2 b;have U:=IM V c2 hs;refine⟨d.1,?_⟩;have h2:=d.2;show(Bp T T.length [(Ap T s).1] (Ap T s).2).1.length+s.next<=(Bp T T.length [(Ap T s).1] (Ap T s).2).2.next
 simp only[Bg,Bm] at h2;omega
theorem Ajm{s:PS}(hg:An T s)(hs:Av T s)(h:(Cz T s).2.code=0):GA (Cz T s).1/\(Cz T s).1.length+s.next<=(Cz T s).2.next:=by
 unfold Cz at h⊢;by_cases a:Aj T AJ s=true
 ·rw[Ag a];exact⟨fun c b=>by simp at b,by simp⟩
 ·rw[Ae a] at h⊢;exact Aaz V Y hg hs h
theorem Aax: ∀(b:Nat)(a:List A8)(s:PS),GA a->An T s->s.code=0->(B5 T b a s).2.code=0->GA (B5 T b a s).1/\(B5 T b a s).1.length+s.next<=a.length+(B5 T b a s).2.next
 |0,a,s,d,hg,f,h=>⟨d,AA _⟩
 |b+1,a,s,d,hg,f,h=>by
  rw[B5] at h⊢;by_cases hs:Aj T CJ s=true
  ·rw[Ag hs] at h⊢;have g:=AD V hg hs Ai;have j:Av T (Ab s):=A4 f;have e:=SE V g j;have c:=B4 V (f:=AQ) Ai e.good e.stk;have c1:=Qd V c.good c.stk h;have c2:=(Bs c1).1;have i:=Aaz V Y g j c2
   have k:=Aax b (a++(Bf T (Ab s)).1) (Am T AQ (Bf T (Ab s)).2) (fun l m=>by
    rcases BD.1 m with h1|h1
    ·exact d l h1
    ·exact i.1 l h1) c.good c1 h
   have n:(Ab s).next=s.next+1:=rfl
   refine⟨k.1,?_⟩;have h2:=k.2;have h3:=i.2;have h4:=c.le;rw[AG] at h2;omega
  ·rw[Ae hs];exact⟨d,AA _⟩
theorem AaA{s:PS}(hg:An T s)(hs:Av T s)(h:(AZ T s).2.code=0):MA (AZ T s).1/\(AZ T s).1.params.length+(AZ T s).1.locals.length<=T.length:=by
 have h1:=IC V hg hs;have h2:=LI V none h1.good h1.stk;rw[Qw] at h2;have h3:=B4 V (f:=AJ) Ai h2.good h2.stk;have h4:=Ja V T.length none (Am T AJ (Cz T (Bn T s)).2) h3.good h3.stk;rw[Ow T.length []] at h4;have a:=B4 V (f:=Bc) Ai h4.good h4.stk;have m:=GN V none 14 a.good a.stk;have e:(BT T (Cx T s).2)=((AK T (AL T none 14) (Am T Bc (Cx T s).2)).1,Am T By (AK T (AL T none 14) (Am T Bc (Cx T s).2)).2):=by unfold BT;rw[Hg]
 have c1:=(Bs (show(Am T AQ (BT T (Cx T s).2).2).code=0 from h)).1;rw[e] at c1;have c2:=(Bs c1).1;have j:=m.code c2;have b:(B5 T T.length [] (Am T AJ (Cz T (Bn T s)).2)).2.code=0:=(Bs j).1;have c:=h4.code b;have d:=(Bs c).1;have k:=h2.code d;have l:(Ap T s).2.code=0:=(Bs (show(Am T Bl (Ap T s).2).code=0 from k)).1;have g:=Ajm V Y h1.good h1.stk d;have f:=Aax V Y T.length [] _ (fun t n=>by simp at n) h3.good c b;have o:=Aap V Y a.good a.stk c2;refine⟨⟨Pb Y hg l,g.1,f.1,?_⟩,?_⟩
 ·show(BT T (Cx T s).2).1.length<=602/\DI (BT T (Cx T s).2).1;rw[e];exact o
 ·have r:(B5 T T.length [] (Am T AJ (Cz T (Bn T s)).2)).2.next<T.length:=h4.good
  have p:=g.2;have i:=f.2;have q:(Cz T (Bn T s)).2.next<=(Am T AJ (Cz T (Bn T s)).2).next:=h3.le
  show(Cz T (Bn T s)).1.length+(B5 T T.length [] (Am T AJ (Cz T (Bn T s)).2)).1.length<=T.length;simp only[Bm] at i;omega
theorem Q9: ∀(e:Nat)(b:List Gl)(s:PS),(∀l∈b,J3 T l)->An T s->s.code=0->(BC T e b s).2.code=0->(∀l∈(BC T e b s).1,J3 T l)/\(BC T e b s).1.length+s.next<=b.length+(BC T e b s).2.next
 |0,b,s,f,hg,m,h=>⟨f,AA _⟩
 |e+1,b,s,f,hg,m,h=>by
  have i:Av T (Ab s):=A4 m;have n:(Ab s).next=s.next+1:=rfl
  rw[BC] at h⊢;by_cases h1:Aj T CJ s=true
  ·rw[Ag h1] at h⊢;have c:=AD V hg h1 Ai;have a:=SD V c i;have c1:=Ke V a.good a.stk h;have g:=Ajj V Y c i c1
   have d:=Q9 e (b++(BP T (Ab s)).1) (BP T (Ab s)).2 (fun j k=>by
    rcases BD.1 k with h1|h1
    ·exact f j h1
    ·exact g.1 j h1) a.good c1 h
   refine⟨d.1,?_⟩;have h2:=d.2;have h3:=g.2;rw[AG] at h2;omega
  ·rw[Ae h1] at h⊢;by_cases h2:Aj T F0 s=true
   ·rw[Ag h2] at h⊢;have c:=AD V hg h2 Ai;have a:=MT V c i;have c1:=Ke V a.good a.stk h;have g:=AaA V Y c i c1
    have d:=Q9 e (b++[.proc (AZ T (Ab s)).1]) (AZ T (Ab s)).2 (fun j k=>by
     rcases BD.1 k with h1|h1
     ·exact f j h1
     ·simp at h1;subst h1;exact g) a.good c1 h
    refine⟨d.1,?_⟩;have h2:=d.2;have h3:=a.le;rw[AG] at h2;simp only[Bg,Bm] at h2;omega
   ·rw[Ae h2] at h⊢;by_cases h3:Aj T GO s=true
    ·rw[Ag h3] at h⊢;have c:=AD V hg h3 Ai;have a:=MT V c i;have c1:=Ke V a.good a.stk h;have g:=AaA V Y c i c1
     have d:=Q9 e (b++[.func (AZ T (Ab s)).1]) (AZ T (Ab s)).2 (fun j k=>by
      rcases BD.1 k with h1|h1
      ·exact f j h1
      ·simp at h1;subst h1;exact g) a.good c1 h
     refine⟨d.1,?_⟩;have h2:=d.2;have h3:=a.le;rw[AG] at h2;simp only[Bg,Bm] at h2;omega
    ·rw[Ae h3];exact⟨f,AA _⟩
theorem Ajn{s:PS}(hg:An T s)(d:s.code=0)(h:(Bd T s).2.code=0):Mu T (Bd T s).1:=by
 have b:=I9 V T.length none s hg (D0 d);rw[KW T.length [] s] at b;have hb:=B4 V (f:=Bc) Ai b.good b.stk;have j:=GN V none 14 hb.good hb.stk;have c:(BT T (BJ T s).2)=((AK T (AL T none 14) (Am T Bc (BJ T s).2)).1,Am T By (AK T (AL T none 14) (Am T Bc (BJ T s).2)).2):=by unfold BT;rw[Hg]
 have a:(Dm T (Am T DR (BT T (BJ T s).2).2)).code=0:=h
 have f:(Am T DR (BT T (BJ T s).2).2).code=0:=by
  unfold Dm at a;split at a
  ·exact a
  ·exact(Fl (by decide) a).elim
 have c1:=(Bs f).1;rw[c] at c1;have c2:=(Bs c1).1;have g:=j.code c2;have i:(BC T T.length [] s).2.code=0:=(Bs g).1;have e:=Q9 V Y T.length [] s (fun n k=>by simp at k) hg d i;have l:=Aap V Y hb.good hb.stk c2;have m:(BC T T.length [] s).2.next<T.length:=b.good
 refine⟨e.1,?_,?_⟩
 ·have:=e.2;simp only[Bm] at this;show(BC T T.length [] s).1.length<=T.length;omega
 ·show(BT T (BJ T s).2).1.length<=602/\DI (BT T (BJ T s).2).1;rw[c];exact l
end
theorem Um{a:Int}(h1: -2147483648<=a)(h2:a<=2147483647):BW a=a:=by unfold BW Int.bmod;simp only;split<;>omega
def NI(W:List Nat)(B:Nat)(E:CE)(O:List A8)(U:List Af)(X:Bool->Af->Nat->Prop)(call:Dr)(d:Nat):Prop:=
 ∀(f:Bool)(b:Af)(a:List Int)(C:DC)(s:RS)(m:MS)(p:Nat)(c:List Int),X f b a.length->C.calls.length=d->C6 W p [24,(E.g b).1,a.length]->B7 B O U C s m p (c++a)->
  BB W B m (call f b a s).2 (fun e=>B7 B O U C (call f b a s).2 e (p+3) (c++if f then[(call f b a s).1] else[]))
section
variable{W:List Nat}{B:Nat}{E:CE}{O:List A8}{U:List Af}{X:Bool->Af->Nat->Prop}{call:Dr}{d:Nat}
section
variable{C:DC}{s:RS}{m:MS}
theorem T4{p v:Nat}{a:List Int}(h:B7 B O U C s m p a)(c:C6 W p [2,v])(d:v<=2147483647):
 Cc W B m {m with pc:=p+2,stack:=C.S++(s.here.map (·.2)++C.extra)++(a++[(v:Int)])}:=by
 obtain⟨b,h1⟩:=c.two;refine Cc.one h.over h.small ?_;unfold CP;rw[h.pc,b];simp only[h1,I3,MS.push];rw[Um (by omega) (by omega),h.stack,DO]
theorem Ahu{p:Nat}{i:List Int}{a:Af}(h:B7 B O U C s m p i)(k:TI E O U a)(b:C6 W p (E.get a)):
 Cc W B m {m with pc:=p+(E.get a).length,stack:=C.S++(s.here.map (·.2)++C.extra)++(i++[s.get a])}:=by
 rcases k with⟨f,h1,h2⟩|⟨h1,h2,g,h3,h4,j⟩
 ·unfold CE.get at b⊢;rw[h2] at b⊢;obtain⟨c,c1⟩:=b.two;have d:f<s.here.length:=by have:=JF h1;rw[<-h.names,BF] at this;exact this
  refine Cc.one h.over h.small ?_;unfold CP;rw[h.pc,c];have hg:m.stack[m.base+f]? =some (s.get a):=by rw[h.stack,h.base,DO,CS (by omega),Jy,DO,CR (by rw[BF];exact d)];unfold RS.get;rw[PX,h.names,h1];simp[List.getD,d]
  simp only[c1,Iv,hg,I3,MS.push];rw[h.stack,DO];rfl
 ·unfold CE.get at b⊢;rw[h2] at b⊢;obtain⟨c,c1⟩:=b.two;have e:g<s.glob.length:=by have:=JF h3;rw[<-h.shape] at this;simpa[Fh] using this
  refine Cc.one h.over h.small ?_;unfold CP;rw[h.pc,c];have l:(s.glob.getD g default).vals.length=1:=by rw[<-ON _ _ e,h.shape,h4]
  have hg:m.places[(E.g a).1]? =some (s.get a):=by have:=PM s.glob e (i:=0) (by omega);rw[h.shape,Mq] at this;rw[h.places,j,this];unfold RS.get;rw[PX,h.names,h1,Ok,h.shape,h3]
  simp only[c1,Iv,hg,I3,MS.push];rw[h.stack,DO];rfl
theorem Ah3{p op:Nat}{a:List Int}{b d:Int}(h:B7 B O U C s m p (a++[b]++[d]))(e:W[p]? =some op)(h1:10<=op)(h2:op<=18):
 CP W B m=some (match K0 op b d with
  |some i=>{m with pc:=p+1,stack:=C.S++(s.here.map (·.2)++C.extra)++(a++[i])}
  |none=>({m with pc:=p+1,stack:=C.S++(s.here.map (·.2)++C.extra)++a}:MS).end_ 10):=by
 obtain⟨f,g⟩:=Lg h;have c:m.stack.dropLast.getLast?=some b/\m.stack.dropLast.dropLast=C.S++(s.here.map (·.2)++C.extra)++a:=by rw[g,<-DO];exact⟨Td _ _,Sa _ _⟩
 unfold CP;rw[h.pc,e];have:op=10\/op=11\/op=12\/op=13\/op=14\/op=15\/op=16\/op=17\/op=18:=by omega
 rcases this with rfl|rfl|rfl|rfl|rfl|rfl|rfl|rfl|rfl
 all_goals
  simp only[f,c.1,c.2,Iv,I3,DO];rfl
theorem OW{p a:Nat}{b:List Int}{c:Int}(h:B7 B O U C s m p (b++[c]))(e:C6 W p [23,a]):
 Cc W B m {m with pc:=if c=0 then a else p+2,stack:=C.S++(s.here.map (·.2)++C.extra)++b}:=by
 obtain⟨d,c1⟩:=e.two;obtain⟨f,g⟩:=Lg h;refine Cc.one h.over h.small ?_;unfold CP;rw[h.pc,d];simp only[c1,Iv,f,I3,g];split<;>rfl
theorem QR{p a:Nat}{b:List Int}(h:B7 B O U C s m p b)(d:C6 W p [22,a]):
 Cc W B m {m with pc:=a,stack:=C.S++(s.here.map (·.2)++C.extra)++b}:=by
 obtain⟨c,c1⟩:=d.two;refine Cc.one h.over h.small ?_;unfold CP;rw[h.pc,c];simp only[c1,I3];rw[<-h.stack]
end
def Q3(op:Nat)(a:Int):Int:=if op=19 then BW (-a) else if op=20 then Cv (a==0) else Cv (a !=0)
section
variable{C:DC}{s:RS}{m:MS}
theorem T5{p op:Nat}{a:List Int}{b:Int}(h:B7 B O U C s m p (a++[b]))(c:W[p]? =some op)(d:op=19\/op=20\/op=21):
 Cc W B m {m with pc:=p+1,stack:=C.S++(s.here.map (·.2)++C.extra)++(a++[Q3 op b])}:=by
 obtain⟨e,f⟩:=Lg h;refine Cc.one h.over h.small ?_;unfold CP;rw[h.pc,c];rcases d with rfl|rfl|rfl
 all_goals
  simp only[e,I3,f,DO];rfl
theorem ZC{p c d:Nat}{b:List Int}{a:Int}(h:B7 B O U C s m p (b++[a]))(f:C6 W p [7,c,d]):
 Cc W B m (if a<0\/(d:Int)<=a then({m with pc:=p+3,stack:=C.S++(s.here.map (·.2)++C.extra)++b}:MS).end_ 9 else{m with pc:=p+3,stack:=C.S++(s.here.map (·.2)++C.extra)++(b++[BW (c+a)])}):=by
 obtain⟨e,c1,c2⟩:=f.three;obtain⟨g,i⟩:=Lg h;refine Cc.one h.over h.small ?_;unfold CP;rw[h.pc,e];simp only[c1,c2,Iv,g,I3,i,DO]
theorem Ah0{p:Nat}{b:List Int}{a c:Int}(h:B7 B O U C s m p (b++[a]))(e:W[p]? =some 8)(d:0<=a)(f:m.places[a.toNat]? =some c):
 Cc W B m {m with pc:=p+1,stack:=C.S++(s.here.map (·.2)++C.extra)++(b++[c])}:=by
 obtain⟨g,i⟩:=Lg h;refine Cc.one h.over h.small ?_;unfold CP;rw[h.pc,e];simp only[g,Iv,Ag d,f,I3,i,DO]
end
theorem ZL: ∀(a:List Nat)(b:Nat)(c:b<a.length),(a.take b).sum+a[b]<=a.sum
 |d::a,0,_=>by simp
 |d::a,b+1,c=>by have:=ZL a b (by simpa using c);simp only[EN,List.sum_cons,List.getElem_cons_succ];omega
theorem Yi(O:List A8){a:Nat}(b:a<O.length):D8 O a+(O.getD a default).2<=(O.map (·.2)).sum:=by have:=ZL (O.map (·.2)) a (by simpa using b);unfold D8;rw[<-UC] at this;simpa[List.getD,b] using this
theorem AcQ(E:CE)(a:Af):(E.get a).length=2:=by unfold CE.get;split<;>rfl
mutual
theorem Im(n:NI W B E O U X call d)(o:(O.map (·.2)).sum<=1000000): ∀(i:Ex)(p:Nat)(C:DC)(s:RS)(m:MS)(e:List Int),EE E O U X i->C.calls.length=d->C6 W p (Ak E p i)->B7 B O U C s m p e->
 BB W B m (AB call i s).2 (fun J=>B7 B O U C (AB call i s).2 J (p+(Ak E p i).length) (e++[(AB call i s).1]))
 |.nil,p,C,s,m,e,f,_,_,_=>by rw[EE] at f;exact f.elim
 |.num ak,p,C,s,m,e,f,_,b,h=>by rw[EE] at f;rw[Ak] at b⊢;rw[AB];exact BB.now h.stop _ (T4 h b f) h.goes
 |.var F V,p,C,s,m,e,f,_,b,h=>by rw[EE] at f;rw[Ak] at b⊢;rw[AB];exact BB.now h.stop _ (Ahu h f b) (h.goes (.inr (by rw[AcQ];simp only[AG,Bg,Bm];omega)))
 |.elem F V z,p,C,s,m,e,f,j,b,h=>by
  rw[EE] at f;rw[Ak] at b⊢;obtain⟨⟨r,N,ab⟩,ae⟩:=f;have c1:=b.left.left;have c2:=b.left.right;have t:=b.right;have k:=Im n o z p C s m e ae j c1 h;rw[AB];by_cases hs:(AB call z s).2.stop.isSome=true
  ·rw[Ag hs];exact k.stopped hs
  ·rw[Ae hs];refine k.bind hs fun x h1=> ?_;generalize(AB call z s).2=g at*;generalize(AB call z s).1=l at*;have Q:r<g.glob.length:=by have:=JF N;rw[<-h1.shape] at this;simpa[Fh] using this
   have af:g.row F=(g.glob.getD r default).vals:=by unfold RS.row;rw[Ok,h1.shape,N]
   have S:(g.glob.getD r default).vals.length=(O.getD r default).2:=by rw[<-ON _ _ Q,h1.shape]
   have D:=ZC h1 c2;rw[ab] at D;rw[af];have al:=Yi O (JF N);by_cases u:G8 (g.glob.getD r default).vals l=true
   ·rw[Ag u];unfold G8 at u;rw[RY,S] at u;rw[Ae (by simp only;omega)] at D;have ag:BW ((D8 O r:Nat)+l)=(D8 O r:Nat)+l:=Um (by omega) (by omega);simp only[ag] at D;have h2:B7 B O U C g _ (p+(Ak E p z).length+3) (e++[((D8 O r:Nat):Int)+l]):=h1.goes
    have I:x.places[(((D8 O r:Nat):Int)+l).toNat]? =some ((g.glob.getD r default).vals.getD l.toNat 0):=by
     have:=PM g.glob Q (i:=l.toNat) (by omega);rw[h1.places,<-this,h1.shape]
     congr 1;omega
    have h3:=Ah0 h2 (by have:=t.one;simpa[Gz] using this) (by omega) I;refine BB.now h1.stop _ (D.trans h3) ?_;have:p+(Ak E p z++[7,(E.g F).fst,(E.g F).snd]++[8]).length=p+(Ak E p z).length+3+1:=by simp;omega
    rw[this];exact h1.goes
   ·rw[Ae u];unfold G8 at u;rw[RY,S] at u;rw[Ag (by simp only;omega)] at D;exact BB.dies (c:=9) rfl _ D rfl h1.out h1.used
 |.call F V args,p,C,s,m,e,f,j,b,h=>by
  rw[EE] at f;rw[Ak] at b⊢;have k:=TV n o args p C s m e f.2 j b.left h;rw[AB];by_cases hs:(Cd call args s).2.stop.isSome=true
  ·rw[Ag hs];exact k.stopped hs
  ·rw[Ae hs];refine k.bind hs fun x h1=> ?_;have R:=h1.2;have u:=b.right;rw[<-R] at u;have:=n true F (Cd call args s).1 C (Cd call args s).2 x _ e (by rw[R];exact f.1) j u h1.1;refine this.mono fun J ad=> ?_;rw[AG];exact ad
 |.bin op a c,p,C,s,m,e,f,j,b,h=>by
  rw[EE] at f;rw[Ak] at b⊢;rw[AB]
  have ac:C6 W p (Ak E p a):=by
   split at b
   ·exact b.left.left.left.left.left
   ·split at b
    ·exact b.left.left.left.left.left
    ·exact b.left.left
  have k:=Im n o a p C s m e f.1 j ac h;by_cases hs:(AB call a s).2.stop.isSome=true
  ·rw[Ag hs];exact k.stopped hs
  ·rw[Ae hs];refine k.bind hs fun x h1=> ?_;generalize(AB call a s).2=g at*;generalize(AB call a s).1=l at*;by_cases H:BE op [97,110,100]=true
   ·rw[Ag H] at b⊢;rw[Ag H];have G:=b.right;have A:=b.left.right;have t:=b.left.left.right;have c2:=b.left.left.left.right;have c1:=b.left.left.left.left.right;have v:=OW h1 c1;simp only[AG,Bg,Bm] at c2 t A G⊢;by_cases y:l=0
    ·rw[Ag y] at v⊢;have h2:B7 B O U C g _ (p+(Ak E p a).length+2+(Ak E (p+(Ak E p a).length+2) c).length+3) e:=h1.goes
     have Y:C6 W (p+(Ak E p a).length+2+(Ak E (p+(Ak E p a).length+2) c).length+3) [2,0]:=by
      have i:p+(Ak E p a).length+2+(Ak E (p+(Ak E p a).length+2) c).length+3=p+((Ak E p a).length+(0+1+1)+(Ak E (p+(Ak E p a).length+2) c).length+(0+1)+(0+1+1)):=by omega
      rw[i];exact G
     have h3:=T4 h2 Y (by omega);refine BB.now h1.stop _ (v.trans h3) ?_;rw[show p+((Ak E p a).length+(0+1+1)+(Ak E (p+(Ak E p a).length+2) c).length+(0+1)+(0+1+1)+(0+1+1))=p+(Ak E p a).length+2+(Ak E (p+(Ak E p a).length+2) c).length+3+2 from by omega];exact h1.goes
    ·rw[Ae y] at v⊢;have h2:B7 B O U C g _ (p+(Ak E p a).length+2) e:=h1.goes
     have w:=Im n o c (p+(Ak E p a).length+2) C g _ e f.2 j (by
      have i:p+(Ak E p a).length+2=p+((Ak E p a).length+(0+1+1)):=by omega
      rw[i] at c2⊢;exact c2) h2
     refine BB.after v ?_;by_cases q:(AB call c g).2.stop.isSome=true
     ·exact w.stopped q
     ·refine w.bind q fun T h3=> ?_;generalize(AB call c g).2=P at*;generalize(AB call c g).1=K at*;have L:p+(Ak E p a).length+2+(Ak E (p+(Ak E p a).length+2) c).length=p+((Ak E p a).length+(0+1+1)+(Ak E (p+(Ak E p a).length+2) c).length):=by omega
      have h4:=T5 h3 (op:=21) (by rw[L];exact t.one) (by simp);have M:B7 B O U C P _ (p+(Ak E p a).length+2+(Ak E (p+(Ak E p a).length+2) c).length+1) (e++[Q3 21 K]):=h3.goes
      have aa:=QR M (a:=p+(Ak E p a).length+2+(Ak E (p+(Ak E p a).length+2) c).length+5) (by
       rw[show p+(Ak E p a).length+2+(Ak E (p+(Ak E p a).length+2) c).length+1=p+((Ak E p a).length+(0+1+1)+(Ak E (p+(Ak E p a).length+2) c).length+(0+1)) from by omega]
       exact A)
      refine BB.now h3.stop _ (h4.trans aa) ?_;rw[show p+((Ak E p a).length+(0+1+1)+(Ak E (p+(Ak E p a).length+2) c).length+(0+1)+(0+1+1)+(0+1+1))=p+(Ak E p a).length+2+(Ak E (p+(Ak E p a).length+2) c).length+5 from by omega];exact h3.goes
   ·rw[Ae H] at b⊢;rw[Ae H];by_cases hb:BE op [111,114]=true
    ·rw[Ag hb] at b⊢;rw[Ag hb];have G:=b.right;have A:=b.left.right;have t:=b.left.left.right;have c2:=b.left.left.left.right;have c1:=b.left.left.left.left.right;have v:=OW h1 c1;simp only[AG,Bg,Bm] at c2 t A G⊢;by_cases y:l=0
     ·rw[Ag y] at v;rw[Ae (by simpa using y)];have h2:B7 B O U C g _ (p+(Ak E p a).length+6) e:=h1.goes
      have w:=Im n o c (p+(Ak E p a).length+6) C g _ e f.2 j (by
       have i:p+(Ak E p a).length+6=p+((Ak E p a).length+(0+1+1)+(0+1+1)+(0+1+1)):=by omega
       rw[i] at A⊢;exact A) h2
      refine BB.after v ?_;by_cases q:(AB call c g).2.stop.isSome=true
      ·exact w.stopped q
      ·refine w.bind q fun T h3=> ?_;generalize(AB call c g).2=P at*;generalize(AB call c g).1=K at*;have L:p+(Ak E p a).length+6+(Ak E (p+(Ak E p a).length+6) c).length=p+((Ak E p a).length+(0+1+1)+(0+1+1)+(0+1+1)+(Ak E (p+(Ak E p a).length+6) c).length):=by omega
       have h4:=T5 h3 (op:=21) (by rw[L];exact G.one) (by simp);refine BB.now h3.stop _ h4 ?_;rw[show p+((Ak E p a).length+(0+1+1)+(0+1+1)+(0+1+1)+(Ak E (p+(Ak E p a).length+6) c).length+(0+1))=p+(Ak E p a).length+6+(Ak E (p+(Ak E p a).length+6) c).length+1 from by omega];exact h3.goes
     ·rw[Ae y] at v;rw[Ag (by simpa using y)];have h2:B7 B O U C g _ (p+(Ak E p a).length+2) e:=h1.goes;have h3:=T4 h2 (v:=1) (by rw[show p+(Ak E p a).length+2=p+((Ak E p a).length+(0+1+1)) from by omega];exact c2) (by omega);have h4:B7 B O U C g _ (p+(Ak E p a).length+2+2) (e++[((1:Nat):Int)]):=h2.goes;have M:=QR h4 (a:=p+(Ak E p a).length+6+(Ak E (p+(Ak E p a).length+6) c).length+1) (by rw[show p+(Ak E p a).length+2+2=p+((Ak E p a).length+(0+1+1)+(0+1+1)) from by omega];exact t);refine BB.now h1.stop _ (v.trans (h3.trans M)) ?_;rw[show p+((Ak E p a).length+(0+1+1)+(0+1+1)+(0+1+1)+(Ak E (p+(Ak E p a).length+6) c).length+(0+1))=p+(Ak E p a).length+6+(Ak E (p+(Ak E p a).length+6) c).length+1 from by omega];exact h1.goes
    ·rw[Ae hb] at b⊢;rw[Ae hb];have c2:=b.left.right;have t:=b.right;have w:=Im n o c (p+(Ak E p a).length) C g x (e++[l]) f.2 j c2 h1;by_cases q:(AB call c g).2.stop.isSome=true
     ·rw[Ag q];exact w.stopped q
     ·rw[Ae q];refine w.bind q fun T h3=> ?_;generalize(AB call c g).2=P at*;generalize(AB call c g).1=K at*;obtain⟨ai,aj⟩:=YA op;have h4:=Ah3 h3 (op:=Ij op) (by have:=t.one;rw[AG] at this;rw[Gz];exact this) ai aj;rw[AdA] at h4;cases I:GH op l K with
      |some ak=>
       rw[I] at h4;refine BB.now h3.stop _ (Cc.one h3.over h3.small h4) ?_;simp only[AG,Bg,Bm];rw[show p+((Ak E p a).length+(Ak E (p+(Ak E p a).length) c).length+(0+1))=p+(Ak E p a).length+(Ak E (p+(Ak E p a).length) c).length+1 from by omega];exact h3.goes
      |none=>
       rw[I] at h4;exact BB.dies (c:=10) rfl _ (Cc.one h3.over h3.small h4) rfl h3.out h3.used
 |.un op i,p,C,s,m,e,f,j,b,h=>by
  rw[EE] at f;rw[Ak] at b⊢;rw[AB];have k:=Im n o i p C s m e f j b.left h;by_cases hs:(AB call i s).2.stop.isSome=true
  ·exact k.stopped hs
  ·refine k.bind hs fun x h1=> ?_;have c2:=b.right.one;have h2:=T5 h1 c2 (by unfold Jt;split<;>simp);refine BB.now h1.stop _ h2 ?_;have Z:(if BE op [45]=true then BW (-(AB call i s).1) else Cv ((AB call i s).1==0))=Q3 (Jt op) (AB call i s).1:=by unfold Q3 Jt;split<;>rfl
   rw[AG,Z];exact h1.goes
theorem TV(n:NI W B E O U X call d)(o:(O.map (·.2)).sum<=1000000): ∀(a:List Ex)(p:Nat)(C:DC)(s:RS)(m:MS)(e:List Int),La E O U X a->C.calls.length=d->C6 W p (CQ E p a)->B7 B O U C s m p e->
 BB W B m (Cd call a s).2 (fun J=>B7 B O U C (Cd call a s).2 J (p+(CQ E p a).length) (e++(Cd call a s).1)/\(Cd call a s).1.length=a.length)
 |[],p,C,s,m,e,_,_,_,h=>by rw[CQ,Cd];refine BB.now h.stop m (.refl _) ⟨?_,rfl⟩;simpa using h
 |i::a,p,C,s,m,e,f,j,b,h=>by
  rw[La] at f;rw[CQ] at b⊢;rw[Cd];have k:=Im n o i p C s m e f.1 j b.left h;by_cases hs:(AB call i s).2.stop.isSome=true
  ·rw[Ag hs];exact k.stopped hs
  ·rw[Ae hs];refine k.bind hs fun x h1=> ?_;have ah:=TV n o a (p+(Ak E p i).length) C (AB call i s).2 x (e++[(AB call i s).1]) f.2 j b.right h1;refine ah.mono fun am h2=>⟨?_,?_⟩
   ·rw[AG,<-Gz];have:=h2.1;rw[DO] at this;exact this
   ·rw[Bg,Bg,h2.2]
end
end
def Jw(call:Dr):Prop:= ∀f a b s,s.used<=(call f a b s).2.used
theorem KE(B:Nat)(s:RS):s.used<=(s.unit B).used:=by
 unfold RS.unit;split
 ·exact AA _
 ·exact Ic _
theorem Aaf(s:RS)(a:Af)(b:Int):(s.set a b).used=s.used:=by
 unfold RS.set;split
 ·rfl
 ·split<;>rfl
theorem Ai5(s:RS)(a:Af)(c b:Int):(s.put a c b).used=s.used:=by unfold RS.put;split<;>rfl
section
variable{B:Nat}{call:Dr}
mutual
theorem Ip(a:Jw call): ∀(c:Ex)(s:RS),s.used<=(AB call c s).2.used
 |.nil,s=>by rw[AB];exact AA _
 |.num _,s=>by rw[AB];exact AA _
 |.var _ _,s=>by rw[AB];exact AA _
 |.elem e p d,s=>by
  have h:=Ip a d s;rw[AB];split
  ·exact h
  ·split<;>exact h
 |.call e p args,s=>by
  have h:=Ug a args s;rw[AB];split
  ·exact h
  ·exact AT h (a _ _ _ _)
 |.bin op b f,s=>by
  have h:=Ip a b s;have h2:=AT h (Ip a f (AB call b s).2);rw[AB];split
  ·exact h
  ·split
   ·split
    ·exact h
    ·exact h2
   ·split
    ·split
     ·exact h
     ·exact h2
    ·split
     ·exact h2
     ·split<;>exact h2
 |.un op c,s=>by rw[AB];exact Ip a c s
theorem Ug(a:Jw call): ∀(b:List Ex)(s:RS),s.used<=(Cd call b s).2.used
 |[],s=>by rw[Cd];exact AA _
 |c::b,s=>by
  have h:=Ip a c s;rw[Cd];split
  ·exact h
  ·exact AT h (Ug a b _)
end
theorem Aae{test:RS->Int×RS}{b:RS->RS}(d: ∀s,s.used<=(test s).2.used)(hb: ∀s,s.used<=(b s).used): ∀(a:Nat)(s:RS),s.used<=(JP B test b a s).used
 |0,s=>by rw[JP];exact AA _
 |a+1,s=>by
  have c:=KE B s;have h1:=AT c (d (s.unit B));have h2:=AT h1 (hb (test (s.unit B)).2);rw[JP];split
  ·exact c
  ·split
   ·exact h1
   ·split
    ·exact h1
    ·split
     ·exact h2
     ·exact AT h2 (Aae d hb a _)
mutual
theorem NA(b:Jw call): ∀(i:St)(s:RS),s.used<=(Cr B call i s).used
 |.nil,s=>by rw[Cr];exact AA _
 |.assign g p c,s=>by
  have a:=KE B s;have h1:=AT a (Ip b c (s.unit B));rw[Cr];split
  ·exact a
  ·split
   ·exact h1
   ·rw[Aaf];exact h1
 |.put g p k c,s=>by
  have a:=KE B s;have h1:=AT a (Ip b k (s.unit B));have h2:=AT h1 (Ip b c _);rw[Cr];split
  ·exact a
  ·split
   ·exact h1
   ·split
    ·split
     ·exact h2
     ·rw[Ai5];exact h2
    ·exact h1
 |.proc g p args,s=>by
  have a:=KE B s;have h1:=AT a (Ug b args (s.unit B));rw[Cr];split
  ·exact a
  ·split
   ·exact h1
   ·exact AT h1 (b _ _ _ _)
 |.ite e i f,s=>by
  have a:=KE B s;have h1:=AT a (Ip b e (s.unit B));rw[Cr];split
  ·exact a
  ·split
   ·exact h1
   ·split
    ·exact AT h1 (NA b i _)
    ·exact AT h1 (NA b f _)
 |.loop e j,s=>by rw[Cr];exact Aae (Ip b e) (NA b j) _ _
 |.block d,s=>by rw[Cr];exact Uh b d s
 |.write c,s=>by
  have a:=KE B s;have h1:=AT a (Ip b c (s.unit B));rw[Cr];split
  ·exact a
  ·split
   ·exact h1
   ·split<;>exact h1
 |.read g p,s=>by
  have a:=KE B s;rw[Cr];split
  ·exact a
  ·split
   ·exact a
   ·rw[Aaf];exact a
theorem Uh(b:Jw call): ∀(d:List St)(s:RS),s.used<=(Dp B call d s).used
 |[],s=>by rw[Dp];exact AA _
 |l::d,s=>by
  have h:=NA b l s;rw[Dp];split
  ·exact h
  ·exact AT h (Uh b d _)
end
theorem PV(B:Nat)(a:List Gl): ∀m,Jw (Ef B a m)
 |0=>fun f d c s=>by rw[Ef];exact AA _
 |m+1=>fun f d c s=>by
  rw[Ef];split
  ·exact KE B s
  ·split
   ·exact AA _
   ·rename_i b _;have h:=Uh (B:=B) (PV B a m) b.body {(if f then s.unit B else s) with here:=b.enter f c};refine AT ?_ h;cases f
    ·exact AA _
    ·exact KE B s
end
def OG(E:CE)(O:List A8)(U:List Af)(a:Af):Prop:=
 (∃c,U.findIdx? (fun b=>AS b a)=some c/\(E.l a=some c\/(E.l a=none/\AS a E.res=true/\c=E.n)))\/
 (U.findIdx? (fun b=>AS b a)=none/\E.l a=none/\AS a E.res=false/\ ∃d,O.findIdx? (fun b=>AS b.1 a)=some d/\(O.getD d default).2=1/\(E.g a).1=D8 O d)
mutual
def E5(E:CE)(O:List A8)(U:List Af)(X:Bool->Af->Nat->Prop):St->Prop
 |.nil=>False
 |.assign a _ b=>OG E O U a/\EE E O U X b
 |.put a _ g b=>TF E O a/\EE E O U X g/\EE E O U X b
 |.proc a _ args=>X false a args.length/\La E O U X args
 |.ite c h f=>EE E O U X c/\E5 E O U X h/\(f.isNil=false->E5 E O U X f)
 |.loop c e=>EE E O U X c/\E5 E O U X e
 |.block d=>Kq E O U X d
 |.write b=>EE E O U X b
 |.read a _=>OG E O U a
def Kq(E:CE)(O:List A8)(U:List Af)(X:Bool->Af->Nat->Prop):List St->Prop
 |[]=>True
 |i::d=>E5 E O U X i/\Kq E O U X d
end
section
variable{W:List Nat}{B:Nat}{E:CE}{O:List A8}{U:List Af}{X:Bool->Af->Nat->Prop}{call:Dr}{d:Nat}
theorem Ky{C:DC}{s:RS}{m:MS}{p:Nat}{d:List Int}(h:B7 B O U C s m p d)(e:W[p]? =some 1):
 BB W B m (s.unit B) (fun g=>B7 B O U C (s.unit B) g (p+1) d):=by
 have a:CP W B m=some (if m.used=B then({m with pc:=m.pc+1}:MS).end_ 8 else{m with pc:=m.pc+1,used:=m.used+1}):=by unfold CP;rw[h.pc,e];rfl
 by_cases c:B<=s.used
 ·have b:s.unit B=s.fail 0:=by unfold RS.unit;rw[Ag c]
  rw[b];have f:=h.lid;rw[Ag (by rw[h.used];omega)] at a;exact BB.dies (c:=0) rfl _ (Cc.one h.over h.small a) rfl h.out h.used
 ·have b:s.unit B={s with used:=s.used+1}:=by unfold RS.unit;rw[Ae c]
  rw[b];have f:=h.lid;rw[Ae (by rw[h.used];omega)] at a;refine BB.now h.stop _ (Cc.one h.over h.small a) ⟨by show m.pc+1=_;rw[h.pc],h.stack,h.base,h.calls,h.places,h.input,h.out,by show m.used+1=s.used+1;rw[h.used],h.over,h.stop,by show s.used+1<=B;omega,h.outs,h.shape,h.names,by have:=h.lim;omega,h.deep⟩
theorem Zr{C:DC}{s:RS}{m:MS}{p:Nat}{b:Af}{a:Int}(h:B7 B O U C s m p ([]++[a]))(z:OG E O U b)(e:C6 W p (E.set b)):
 ∃r,Cc W B m r/\B7 B O U C (s.set b a) r (p+(E.set b).length) []:=by
 obtain⟨t,u⟩:=Lg h;rcases z with⟨c,h1,h2⟩|⟨h1,h2,x,d,h3,h4,o⟩
 ·have j:E.set b=[6,c]:=by
   unfold CE.set;rcases h2 with h2|⟨h2,h3,h4⟩
   ·rw[h2]
   ·rw[h2];simp only[h3,Hr,h4]
  rw[j] at e⊢;obtain⟨f,c1⟩:=e.two;have q:c<s.here.length:=by have:=JF h1;rw[<-h.names,BF] at this;exact this
  have g:s.set b a={s with here:=s.here.set c ((s.here.getD c default).1,a)}:=by unfold RS.set;rw[PX,h.names,h1]
  have k:CP W B m=some {m with pc:=p+2,stack:=(C.S++(s.here.map (fun l:Af×Int=>l.2)++C.extra)++[]).set (C.S.length+c) a}:=by unfold CP;rw[h.pc,f];simp only[c1,Iv,t,u,h.base];rw[Ag];simp;omega
  refine⟨_,Cc.one h.over h.small k,?_⟩;rw[g];refine⟨rfl,?_,h.base,h.calls,h.places,h.input,h.out,h.used,h.over,h.stop,h.lid,h.outs,h.shape,?_,B6 _,h.deep⟩
  ·show(C.S++(s.here.map (fun l:Af×Int=>l.2)++C.extra)++[]).set (C.S.length+c) a=C.S++((s.here.set c ((s.here.getD c default).1,a)).map (·.2)++C.extra)++[];rw[IY,IY,Pj _ _ (by omega),Jy,List.set_append_left _ _ (by rw[BF];exact q),J5]
  ·show(s.here.set c ((s.here.getD c default).1,a)).map (·.1)=U;rw[<-h.names,J5];apply List.ext_getElem
   ·simp
   ·intro A F G;by_cases n:c=A
    ·subst n;simp[List.getD,q]
    ·simp[n]
 ·have j:E.set b=[4,(E.g b).1]:=by unfold CE.set;rw[h2];simp only[x];rfl
  rw[j] at e⊢;obtain⟨f,c1⟩:=e.two;have i:d<s.glob.length:=by have:=JF h3;rw[<-h.shape] at this;simpa[Fh] using this
  have D:(s.glob.getD d default).vals.length=1:=by rw[<-ON _ _ i,h.shape,h4]
  have g:s.set b a={s with glob:=s.glob.set d ⟨(s.glob.getD d default).name,(s.glob.getD d default).vals.set 0 a⟩}:=by unfold RS.set;rw[PX,h.names,h1,Ok,h.shape,h3]
  obtain⟨v,w⟩:=V6 s.glob i (i:=0) (by omega) a;have y:(E.g b).1<m.places.length:=by have:=PM s.glob i (i:=0) (by omega);rw[h.shape,Mq] at this;rw[h.places,o];exact(BH.1 this).1
  have k:CP W B m=some {m with pc:=p+2,stack:=C.S++(s.here.map (·.2)++C.extra)++[],places:=m.places.set (E.g b).1 a}:=by unfold CP;rw[h.pc,f];simp only[c1,Iv,t,u,Ag y]
  refine⟨_,Cc.one h.over h.small k,?_⟩;rw[g];refine⟨rfl,rfl,h.base,h.calls,?_,h.input,h.out,h.used,h.over,h.stop,h.lid,h.outs,?_,h.names,B6 _,h.deep⟩
  ·show m.places.set (E.g b).1 a=G7 _;rw[v,h.places,o,h.shape,Mq]
  ·show Fh _=O;rw[w,h.shape]
end
