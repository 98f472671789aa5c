/- Plain: how many names there are; where a declaration leaves  -/
import Derived.Test.YtklobognaldjpaaGreatCLook3
namespace Go.Proofs.YtklobognaldjpaaGreat
open Go.Proofs.Tryz
section
variable{T:List Az}
def Cb(m:Option Ao)(s:PS):Prop:= ∀E,m=some E->E.glob.length<=s.next/\E.here.length<=s.next
theorem Cb.le{m:Option Ao}{s c:PS}(h:Cb m s)(b:s.next<=c.next):Cb m c:=fun E a=>⟨AT (h E a).1 b,AT (h E a).2 b⟩
theorem Cb.row{E:Ao}{s:PS}(h:Cb (some E) s)(here:Bool):(E.row here).length<=s.next:=by
 cases here
 ·exact(h E rfl).1
 ·exact(h E rfl).2
section
variable{m:Option Ao}{here:Bool}{s0 s:PS}{kind args:Nat}
theorem Oc(h:(BM T m here s0 kind args s).2.code=0):(BM T m here s0 kind args s).2=s:=by
 unfold BM at*;split
 ·rfl
 ·simp only at h;split
  ·rename_i a;rw[Ag a] at h;split
   ·rename_i b;rw[Ag b] at h;simp[stop] at h
   ·rfl
  ·rfl
theorem Vy(a:s.code≠0):BM T m here s0 kind args s=(m,s):=by
 unfold BM;split
 ·rfl
 ·rw[Ae a]
theorem Oa(h:Cb m s0)(g:s0.next+1<=s.next)(a:(BM T m here s0 kind args s).2.code=0):Cb (BM T m here s0 kind args s).1 (BM T m here s0 kind args s).2:=by
 rw[Oc a];unfold BM at*;split
 ·intro E b;cases b
 ·rename_i E;have h0:=h E rfl;simp only at a;split
  ·rename_i e;rw[Ag e] at a;split
   ·rename_i d;rw[Ag d] at a;simp[stop] at a
   ·intro f c;cases c;cases here
    ·refine⟨?_,?_⟩
     ·show(E.glob++[_]).length<=_;simp;omega
     ·show E.here.length<=_;omega
    ·refine⟨?_,?_⟩
     ·show E.glob.length<=_;omega
     ·show(E.here++[_]).length<=_;simp;omega
  ·exact h.le (by omega)
theorem RJ{b:Int}(d:s.code=0->b=s.next):(BM T m here s0 kind args s).2.code=0->b=(BM T m here s0 kind args s).2.next:=fun a=>by have c:=Oc a;rw[c] at a⊢;exact d a
end
section
variable{n:Nat}{m:Option Ao}{s:PS}
theorem Ac7(h:Aj T Bx s=true):EC T (n+1) m s=EC T n (DX T m (Ab s)).1 (DX T m (Ab s)).2:=by rw[EC,Ag h]
theorem PZ(h:Aj T Bx s=false):EC T n m s=(m,s):=by
 cases n with
 |zero=>rfl
 |succ n=>rw[EC,Ae (by rw[h];simp)]
theorem Adm(h:Aj T Bx s=true):ED T (n+1) m s=ED T n (C2 T m (Ab s)).1 (C2 T m (Ab s)).2:=by rw[ED,Ag h]
theorem P2(h:Aj T Bx s=false):ED T n m s=(m,s):=by
 cases n with
 |zero=>rfl
 |succ n=>rw[ED,Ae (by rw[h];simp)]
theorem Aen(h:Aj T CJ s=true):Et T (n+1) m s=Et T n (C1 T m (Ab s)).1 (Am T AQ (C1 T m (Ab s)).2):=by rw[Et,Ag h]
theorem Ti(h:Aj T CJ s=false):Et T n m s=(m,s):=by
 cases n with
 |zero=>rfl
 |succ n=>rw[Et,Ae (by rw[h];simp)]
end
end
section
variable{T:List Az}
theorem CZ.code{s c:PS}(h:CZ T s c)(b:c.code=0):s.code=0:=by
 by_cases a:s.code=0
 ·exact a
 ·rw[h.still a] at b;exact b
theorem SN(m:Option Ao)(here:Bool)(s0 s:PS)(kind args:Nat):(BM T m here s0 kind args s).1.isSome=m.isSome:=by
 unfold BM;split
 ·rfl
 ·split
  ·split<;>rfl
  ·rfl
theorem Wm{E a:Ao}{s0 s:PS}{kind args:Nat}(h:(BM T (some E) true s0 kind args s).1=some a):a.glob=E.glob/\a.inside=E.inside/\a.fresh=E.fresh:=by
 unfold BM at h;simp only at h;split at h
 ·split at h
  ·cases h;exact⟨rfl,rfl,rfl⟩
  ·cases h;exact⟨rfl,rfl,rfl⟩
 ·cases h;exact⟨rfl,rfl,rfl⟩
theorem AcW{E b:Ao}{s0 s:PS}{kind args:Nat}(h:(BM T (some E) false s0 kind args s).1=some b)(a:(BM T (some E) false s0 kind args s).2.code=0):b.glob=E.glob++[⟨(Ad T s0).text,kind,args⟩]/\b.inside=E.inside/\b.here=E.here/\b.fresh=true:=by
 unfold BM at h a;simp only at h a;split at h
 ·rename_i c;rw[Ag c] at a;split at h
  ·rename_i d;rw[Ag d] at a;simp[stop] at a
  ·cases h;exact⟨rfl,rfl,rfl,rfl⟩
 ·rename_i c;rw[Ae c] at a;exact absurd a c
theorem T0{E:Ao}{here:Bool}{s0 s:PS}{kind args:Nat}: ∃a,(BM T (some E) here s0 kind args s).1=some a:=KN.1 (by rw[SN];rfl)
theorem Wn: ∀(n:Nat){E a:Ao}{s:PS},(EC T n (some E) s).1=some a->a.glob=E.glob/\a.inside=E.inside/\a.fresh=E.fresh
 |0,E,a,s,h=>by cases h;exact⟨rfl,rfl,rfl⟩
 |n+1,E,a,s,h=>by
  rw[EC] at h;split at h
  ·obtain⟨e,d⟩:=T0 (T:=T) (E:=E) (here:=true) (s0:=Ab s) (s:=(Ap T (Ab s)).2) (kind:=0) (args:=0);have f:(DX T (some E) (Ab s)).1=some e:=d;rw[f] at h;have b:=Wn n h;have c:=Wm d;exact⟨b.1.trans c.1,b.2.1.trans c.2.1,b.2.2.trans c.2.2⟩
  ·cases h;exact⟨rfl,rfl,rfl⟩
theorem Wo{E a:Ao}{s:PS}(h:(C1 T (some E) s).1=some a):a.glob=E.glob/\a.inside=E.inside/\a.fresh=E.fresh:=by obtain⟨e,d⟩:=T0 (T:=T) (E:=E) (here:=true) (s0:=s) (s:=(Ap T s).2) (kind:=0) (args:=0);have f:(DX T (some E) s).1=some e:=d;unfold C1 at h;rw[f] at h;have b:=Wn _ h;have c:=Wm d;exact⟨b.1.trans c.1,b.2.1.trans c.2.1,b.2.2.trans c.2.2⟩
theorem Wz: ∀(n:Nat)(m:Option Ao)(s:PS),(EC T n m s).1.isSome=m.isSome
 |0,m,s=>rfl
 |n+1,m,s=>by
  rw[EC];split
  ·rw[Wz n];exact SN _ _ _ _ _ _
  ·rfl
theorem WB(m:Option Ao)(s:PS):(C1 T m s).1.isSome=m.isSome:=by unfold C1;rw[Wz];exact SN _ _ _ _ _ _
theorem Wp: ∀(n:Nat){E a:Ao}{s:PS},(Et T n (some E) s).1=some a->a.glob=E.glob/\a.inside=E.inside/\a.fresh=E.fresh
 |0,E,a,s,h=>by cases h;exact⟨rfl,rfl,rfl⟩
 |n+1,E,a,s,h=>by
  rw[Et] at h;split at h
  ·obtain⟨e,d⟩:=KN.1 ((WB (T:=T) (some E) (Ab s)).trans rfl);rw[d] at h;have b:=Wp n h;have c:=Wo d;exact⟨b.1.trans c.1,b.2.1.trans c.2.1,b.2.2.trans c.2.2⟩
  ·cases h;exact⟨rfl,rfl,rfl⟩
variable(O:AR T)
include O
theorem IM{s:PS}(a:(Ap T s).2.code=0)(U:Av T s):(Ap T s).2.next=s.next+1:=by
 unfold Ap at*;split
 ·rfl
 ·rename_i h;rw[Ae h] at a;have h0:=(In O s U).2;unfold Ap at h0;rw[Ae h] at h0;by_cases b:s.code=0
  ·simp[AI,b] at a
  ·simp[AI,b] at a
theorem Vr{m:Option Ao}{s:PS}(h:Cb m s)(U:Av T s)(V:An T s)(b:(DX T m s).2.code=0):Cb (DX T m s).1 (DX T m s).2:=by have a:=EY O V U;have c:=Gg O m true s 0 0 a.good a.stk;have d:=c.code b;exact Oa h (by rw[IM O d U];omega) b
theorem Vo: ∀(n:Nat)(m:Option Ao)(s:PS),Cb m s->An T s->Av T s->(EC T n m s).2.code=0->Cb (EC T n m s).1 (EC T n m s).2
 |0,m,s,h,_,_,_=>h
 |n+1,m,s,h,V,U,d=>by
  rw[EC] at d⊢;split at d
  ·rename_i b;rw[Ag b];have a:=Fz O Ai V U b;have c:=MQ O m a.good a.stk;have e:=(KX O n (DX T m (Ab s)).1 _ c.good c.stk).code d;exact Vo n _ _ (Vr O (h.le a.le) a.stk a.good e) c.good c.stk d
  ·rename_i b;rw[Ae b];exact h
theorem RR{m:Option Ao}{s:PS}(h:Cb m s)(V:An T s)(U:Av T s)(b:(C1 T m s).2.code=0):Cb (C1 T m s).1 (C1 T m s).2:=by have a:=MQ O m V U;have c:=(KX O T.length (DX T m s).1 _ a.good a.stk).code b;exact Vo O _ _ _ (Vr O h U V c) a.good a.stk b
theorem RT{m:Option Ao}{s:PS}(h:Cb m s)(U:Av T s)(V:An T s)(b:(C2 T m s).2.code=0):Cb (C2 T m s).1 (C2 T m s).2:=by
 have c:=EY O V U;unfold C2 at b⊢;split at b
 ·rename_i f;rw[Ag f];have a:=Fz O Ai c.good c.stk f;have d:=On O a.good a.stk;have g:=Gg O m false s 1 0 d.good d.stk;have e:=PU O m (Ab (Ap T s).2) g.good g.stk;have j:=B4 O (f:=Cn) Ai e.good e.stk;have l:=j.code b;have i:=e.code l;have k:=g.code i;have c1:(Ap T s).2.code=0:=a.code (d.code k);have n:=IM O c1 U;exact(Oa h (by have:=a.le;have:=d.le;omega) i).le (AT e.le j.le)
 ·rename_i f;rw[Ae f];have a:=Gg O m false s 0 0 c.good c.stk;exact Oa h (by rw[IM O (a.code b) U];omega) b
theorem Vp: ∀(n:Nat)(m:Option Ao)(s:PS),Cb m s->An T s->Av T s->(ED T n m s).2.code=0->Cb (ED T n m s).1 (ED T n m s).2
 |0,m,s,h,_,_,_=>h
 |n+1,m,s,h,V,U,d=>by
  rw[ED] at d⊢;split at d
  ·rename_i b;rw[Ag b];have a:=Fz O Ai V U b;have c:=KY O m a.good a.stk;have e:=(LH O n (C2 T m (Ab s)).1 _ c.good c.stk).code d;exact Vp n _ _ (RT O (h.le a.le) a.stk a.good e) c.good c.stk d
  ·rename_i b;rw[Ae b];exact h
theorem Aby{m:Option Ao}{s:PS}(h:Cb m s)(V:An T s)(U:Av T s)(e:(EH T m s).2.code=0):Cb (EH T m s).1 (EH T m s).2:=by have a:=KY O m V U;have b:=LH O T.length (C2 T m s).1 _ a.good a.stk;have d:=B4 O (f:=AQ) Ai b.good b.stk;have c:=d.code e;exact(Vp O _ _ _ (RT O h U V (b.code c)) a.good a.stk c).le d.le
section
variable{m:Option Ao}{kind:Nat}{s:PS}(h:Cb m s)(V:An T s)(U:Av T s)
include h V U
theorem RU(i:(DZ T m kind s).2.code=0):Cb (DZ T m kind s).1 (DZ T m kind s).2:=by have c:=EY O V U;have d:=IC O V U;have a:=Gg O m false s kind (DB T (Bn T s)) d.good d.stk;have e:=Om O m s (DB T (Bn T s)) a.good a.stk;have b:=e.code i;have g:=a.code b;have f:=B4 O (f:=Bl) Ai c.good c.stk;have c1:=f.code g;have j:=IM O c1 U;exact(Oa h (by have:(Ap T s).2.next<=(Bn T s).next:=f.le;omega) b).le e.le
theorem Vs(b:(EJ T m kind s).2.code=0):Cb (EJ T m kind s).1 (EJ T m kind s).2:=by
 have a:=PR O m kind V U;unfold EJ Hx at*;split at b
 ·rename_i c;rw[Ag c];exact RU O h V U b
 ·rename_i c;rw[Ae c];have d:=JI O (DZ T m kind s).1 a.good a.stk;exact RR O (RU O h V U (d.code b)) a.good a.stk b
end
theorem Vq: ∀(n:Nat)(m:Option Ao)(s:PS),Cb m s->An T s->Av T s->(Et T n m s).2.code=0->Cb (Et T n m s).1 (Et T n m s).2
 |0,m,s,h,_,_,_=>h
 |n+1,m,s,h,V,U,d=>by
  rw[Et] at d⊢;split at d
  ·rename_i c;rw[Ag c];have b:=Fz O Ai V U c;have e:=JI O m b.good b.stk;have a:=B4 O (f:=AQ) Ai e.good e.stk;have f:=(Ja O n (C1 T m (Ab s)).1 _ a.good a.stk).code d;exact Vq n _ _ ((RR O (h.le b.le) b.good b.stk (a.code f)).le a.le) a.good a.stk d
  ·rename_i c;rw[Ae c];exact h
theorem Abz{m:Option Ao}{kind:Nat}{s:PS}(h:Cb m s)(V:An T s)(U:Av T s)(c:(DS T m kind s).2.code=0):Cb (DS T m kind s).1 (DS T m kind s).2:=by have b:=Oo O m kind V U;have a:=B4 O (f:=AJ) Ai b.good b.stk;have d:=(Ja O T.length (EJ T m kind s).1 _ a.good a.stk).code c;exact Vq O _ _ _ ((Vs O h V U (a.code d)).le a.le) a.good a.stk c
theorem AcG{E c:Ao}{kind:Nat}{s:PS}(V:An T s)(U:Av T s)(h:(DS T (some E) kind s).1=some c)(u:(DS T (some E) kind s).2.code=0):0<c.glob.length/\c.fresh=true:=by
 have j:=Oo O (some E) kind V U;have f:=B4 O (f:=AJ) Ai j.good j.stk;have c1:=f.code ((Ja O T.length (EJ T (some E) kind s).1 _ f.good f.stk).code u);have k:=PR O (some E) kind V U;have n:(DZ T (some E) kind s).2.code=0:=(LI O (DZ T (some E) kind s).1 k.good k.stk).code c1;have l:=IC O V U;have m:=Gg O (some E) false s kind (DB T (Bn T s)) l.good l.stk;have o:=(Om O (some E) s (DB T (Bn T s)) m.good m.stk).code n;obtain⟨b,e1⟩:=T0 (T:=T) (E:=E) (here:=false) (s0:=s) (s:=Bn T s) (kind:=kind) (args:=DB T (Bn T s));have g:=AcW e1 o;have p:(DZ T (some E) kind s).1=some b:=e1
 have r: ∃a,(EJ T (some E) kind s).1=some a/\a.glob=b.glob/\a.fresh=b.fresh:=by
  unfold EJ Hx;rw[p];split
  ·exact⟨b,rfl,rfl,rfl⟩
  ·obtain⟨a,d⟩:=KN.1 ((WB (T:=T) (some b) (DZ T (some E) kind s).2).trans rfl);have e:=Wo d;exact⟨a,d,e.1,e.2.2⟩
 obtain⟨a,d,e,q⟩:=r;have t:(Et T T.length (some a) (Am T AJ (EJ T (some E) kind s).2)).1=some c:=by rw[<-d];exact h
 have i:=Wp _ t;rw[i.1,e,g.1];refine⟨by simp,?_⟩;rw[i.2.2,q];exact g.2.2.2
theorem Vt{m:Option Ao}{kind:Nat}{s:PS}(h:Cb m s)(V:An T s)(U:Av T s)(l:(CO T m kind s).2.code=0):Cb (CO T m kind s).1 (CO T m kind s).2:=by
 have g:=PT O m kind V U;have a:=B4 O (f:=Bc) Ai g.good g.stk;have b:=GN O ((DS T m kind s).1.map Ao.enter) 14 a.good a.stk;have c:=B4 O (f:=By) Ai b.good b.stk;have i:=B4 O (f:=AQ) Ai c.good c.stk;have j:=Abz O h V U (a.code (b.code (c.code (i.code l))));intro E k;have n:(DS T m kind s).2.next<=(CO T m kind s).2.next:=AT a.le (AT b.le (AT c.le i.le))
 have d:(DS T m kind s).1.map Ao.leave=some E:=k;cases e:(DS T m kind s).1 with
 |none=>rw[e] at d;cases d
 |some f=>
  rw[e] at d;cases d;have:=(j f e).1;exact⟨by show f.glob.length<=_;omega,by show([]:List Sy).length<=_;simp⟩
end
def Be(E:Ao)(here:Bool)(n:Af)(p kind args:Nat):Ao×Option (Nat×Nat):=
 if(A9 (E.row here) n).isSome then(E,some (6,p)) else(E.add here ⟨n,kind,args⟩,none)
def AX(E:Ao):List A8->Ao×Option (Nat×Nat)
 |[]=>(E,none)
 |x::a=>((AX (Be E true x.1 x.2 0 0).1 a).1,(Be E true x.1 x.2 0 0).2.or (AX (Be E true x.1 x.2 0 0).1 a).2)
def Gk(n p:Nat):Option (Nat×Nat):=if 4<n then some (7,p) else none
def F1(n p:Nat):Option (Nat×Nat):=if n<1\/20<n then some (3,p) else none
def Fg(E:Ao)(kind:Nat)(a:Ro):Ao×Option (Nat×Nat):=
 ((AX (Be E false a.name.1 a.name.2 kind a.params.length).1 a.params).1,
  ((Be E false a.name.1 a.name.2 kind a.params.length).2.or (Gk a.params.length a.name.2)).or (AX (Be E false a.name.1 a.name.2 kind a.params.length).1 a.params).2)
def DJ(E:Ao)(kind:Nat)(a:Ro):Ao×Option (Nat×Nat):=
 ((AX (Fg E kind a).1 a.locals).1.leave,
  ((Fg E kind a).2.or (AX (Fg E kind a).1 a.locals).2).or (Bz (AX (Fg E kind a).1 a.locals).1.enter a.body))
def Ce(E:Ao):Gl->Ao×Option (Nat×Nat)
 |.var n p=>Be E false n p 0 0
 |.arr n p size at_=>((Be E false n p 1 0).1,(Be E false n p 1 0).2.or (F1 size at_))
 |.proc a=>DJ E 2 a
 |.func a=>DJ E 3 a
def AO(E:Ao):List Gl->Ao×Option (Nat×Nat)
 |[]=>(E,none)
 |a::b=>((AO (Ce E a).1 b).1,(Ce E a).2.or (AO (Ce E a).1 b).2)
def D7(E:Ao)(p:Pr):Option (Nat×Nat):=(AO E p.globals).2.or (Bz (AO E p.globals).1 p.body)
theorem Ji(E:Ao)(here:Bool)(n:Af)(p kind args:Nat):Nz (Be E here n p kind args).2:=by
 unfold Be;split
 ·intro x a;cases a;simp
 ·exact .none
theorem OE(n p:Nat):Nz (Gk n p):=by
 unfold Gk;split
 ·intro x a;cases a;simp
 ·exact .none
theorem Yh(n p:Nat):Nz (F1 n p):=by
 unfold F1;split
 ·intro x a;cases a;simp
 ·exact .none
theorem IQ: ∀(a:List A8)(E:Ao),Nz (AX E a).2
 |[],_=>.none
 |_::a,_=>(Ji _ _ _ _ _ _).or (IQ a _)
theorem TD(E:Ao)(kind:Nat)(a:Ro):Nz (Fg E kind a).2:=((Ji _ _ _ _ _ _).or (OE _ _)).or (IQ _ _)
theorem Qq(E:Ao)(kind:Nat)(a:Ro):Nz (DJ E kind a).2:=((TD E kind a).or (IQ _ _)).or (Jj _ _)
theorem TC(E:Ao)(c:Gl):Nz (Ce E c).2:=by
 cases c with
 |var n p=>exact Ji _ _ _ _ _ _
 |arr n p a b=>exact(Ji _ _ _ _ _ _).or (Yh _ _)
 |proc d=>exact Qq _ _ _
 |func d=>exact Qq _ _ _
theorem LW: ∀(a:List Gl)(E:Ao),Nz (AO E a).2
 |[],_=>.none
 |_::a,_=>(TC _ _).or (LW a _)
theorem Qf(b:List A8): ∀(a:List A8)(E:Ao),AX E (a++b)=((AX (AX E a).1 b).1,(AX E a).2.or (AX (AX E a).1 b).2)
 |[],E=>by simp[AX]
 |x::a,E=>by show AX E (x::(a++b))=_;rw[AX,AX,Qf b a];simp[Mt]
theorem XA(b:List Gl): ∀(a:List Gl)(E:Ao),AO E (a++b)=((AO (AO E a).1 b).1,(AO E a).2.or (AO (AO E a).1 b).2)
 |[],E=>by simp[AO]
 |x::a,E=>by show AO E (x::(a++b))=_;rw[AO,AO,XA b a];simp[Mt]
section
variable{T:List Az}{E:Ao}
structure EV(T:List Az)(N:Option Ao×PS)(L:Ao×Option (Nat×Nat))(r:PS):Prop where
 st:N.2=after T L.2 r
 env:L.2=none->N.1=some L.1
theorem QD{here:Bool}{s0 s:PS}{kind args:Nat}(a:s.code=0):EV T (BM T (some E) here s0 kind args s) (Be E here (Ad T s0).text (Ad T s0).pos kind args) s:=by
 unfold BM Be;simp only;rw[Ag a];by_cases h:(A9 (E.row here) (Ad T s0).text).isSome=true
 ·rw[Ag h,Ag h];exact⟨rfl,fun h=>by cases h⟩
 ·rw[Ae h,Ae h];exact⟨rfl,fun _=>rfl⟩
section
variable{s0 s:PS}
theorem Ahx(b:s.code=0):Hf T (some E) s0 s=after T (F1 (Ad T s0).val (Ad T s0).pos) s:=by
 unfold Hf F1;simp only;by_cases h:(Ad T s0).val<1\/20<(Ad T s0).val
 ·rw[Ag (And.intro b h),Ag h];rfl
 ·rw[Ae (fun a=>h a.2),Ae h];rfl
theorem Ahw(a:s.code≠0):Hf T (some E) s0 s=s:=by unfold Hf;simp only;rw[Ae (fun h=>a h.1)]
theorem Ahv(b:s.code=0){a:Option (Nat×Nat)}(c:Nz a):Hf T (some E) s0 (after T a s)=after T (a.or (F1 (Ad T s0).val (Ad T s0).pos)) s:=by
 cases a with
 |none=>exact Ahx b
 |some x=>exact Ahw (c x rfl)
theorem AeQ{n:Nat}(b:s.code=0):FC T (some E) s0 n s=after T (Gk n (Ad T s0).pos) s:=by
 unfold FC Gk;simp only;by_cases h:4<n
 ·rw[Ag (And.intro b h),Ag h];rfl
 ·rw[Ae (fun a=>h a.2),Ae h];rfl
theorem AeN{n:Nat}(a:s.code≠0):FC T (some E) s0 n s=s:=by unfold FC;simp only;rw[Ae (fun h=>a h.1)]
theorem AeM{n:Nat}(b:s.code=0){a:Option (Nat×Nat)}(c:Nz a):FC T (some E) s0 n (after T a s)=after T (a.or (Gk n (Ad T s0).pos)) s:=by
 cases a with
 |none=>exact AeQ b
 |some x=>exact AeN (c x rfl)
end
theorem Ko{s:PS}(h:(Ap T s).2.code=0):s.code=0/\AN T .name s=true/\Ap T s=(((Ad T s).text,(Ad T s).pos),Ab s):=by
 unfold Ap at*;split at h
 ·rename_i a;exact⟨h,a,by rw[Ag a]⟩
 ·exfalso;unfold AI at h;simp only at h;split at h
  ·cases h
  ·rename_i b;exact b h
theorem Nj{s:PS}(h:(BV T s).2.code=0):s.code=0/\BV T s=(((Ad T s).val,(Ad T s).pos),Ab s):=by
 unfold BV at*;split at h
 ·rename_i b;exact⟨h,by rw[Ag b]⟩
 ·exfalso;unfold AI at h;simp only at h;split at h
  ·cases h
  ·rename_i a;exact a h
variable(O:AR T)
include O
theorem YW{s:PS}(h:(AE T s).2.code=0):EV T (C2 T (some E) s) (Ce E (AE T s).1) (AE T s).2:=by
 unfold AE C2 at*;by_cases a:Aj T BL (Ap T s).2=true
 ·rw[Ag a] at h;rw[Ag a,Ag a];obtain⟨c1,_,_⟩:=Bs h;obtain⟨e,f⟩:=Nj c1;obtain⟨k,_,g⟩:=Ko (show(Ap T s).2.code=0 from e);have c:=QD (T:=T) (E:=E) (here:=false) (s0:=s) (kind:=1) (args:=0) c1;have d:=Ji E false (Ad T s).text (Ad T s).pos 1 0;show EV T ((BM T (some E) false s 1 0 (BV T (Ab (Ap T s).2)).2).1,Am T Cn (Hf T (some E) (Ab (Ap T s).2) (BM T (some E) false s 1 0 (BV T (Ab (Ap T s).2)).2).2)) ((Be E false (Ap T s).1.1 (Ap T s).1.2 1 0).1,(Be E false (Ap T s).1.1 (Ap T s).1.2 1 0).2.or (F1 (BV T (Ab (Ap T s).2)).1.1 (BV T (Ab (Ap T s).2)).1.2)) (Am T Cn (BV T (Ab (Ap T s).2)).2);have e4:(Ap T s).1=((Ad T s).text,(Ad T s).pos):=by rw[g]
  have i:(BV T (Ab (Ap T s).2)).1=((Ad T (Ab (Ap T s).2)).val,(Ad T (Ab (Ap T s).2)).pos):=by rw[f]
  rw[e4,i];refine⟨?_,fun h0=> ?_⟩
  ·show Am T Cn (Hf T (some E) (Ab (Ap T s).2) (BM T (some E) false s 1 0 (BV T (Ab (Ap T s).2)).2).2)=after T _ _;rw[c.st,Ahv c1 d,Gv O Ai (d.or (Yh _ _))]
  ·refine c.env ?_;cases j:(Be E false (Ad T s).text (Ad T s).pos 1 0).2 with
   |none=>rfl
   |some x=>have b:(Be E false (Ad T s).text (Ad T s).pos 1 0).2.or _=none:=h0;rw[j] at b;cases b
 ·rw[Ae a] at h;rw[Ae a,Ae a];obtain⟨c1,_,e1⟩:=Ko (show(Ap T s).2.code=0 from h);show EV T (BM T (some E) false s 0 0 (Ap T s).2) (Be E false (Ap T s).1.1 (Ap T s).1.2 0 0) (Ap T s).2;have e4:(Ap T s).1=((Ad T s).text,(Ad T s).pos):=by rw[e1]
  rw[e4];exact QD h
omit O in
theorem Bq{a b:Option (Nat×Nat)}(h:a.or b=none):a=none/\b=none:=by
 cases a with
 |none=>exact⟨rfl,by simpa using h⟩
 |some x=>cases h
theorem MV: ∀{n:Nat}{a:List Gl}{s:PS},An T s->Av T s->(Bw T n a s).2.code=0->s.code=0:=by intro n a s V U h;have b:=SQ (T:=T) n a s;exact(LH O n none s V U).code (by rw[b];exact h)
theorem MP{s:PS}(V:An T s)(U:Av T s):CZ T s (AE T s).2:=by have:=KY O none V U;rw[SO] at this;exact this
theorem YX: ∀(n:Nat)(a:List Gl)(E:Ao)(s:PS),An T s->s.code=0->(Bw T n a s).2.code=0-> ∃c,(Bw T n a s).1=a++c/\EV T (ED T n (some E) s) (AO E c) (Bw T n a s).2
 |0,a,E,s,V,i,h=>⟨[],by simp[Bw],rfl,fun _=>rfl⟩
 |n+1,a,E,s,V,i,h=>by
  rw[Bw] at h;rw[Bw,ED];by_cases U:Aj T Bx s=true
  ·rw[Ag U] at h;rw[Ag U,Ag U];have k:=AD O V U Ai;have m:Av T (Ab s):=A4 i;have e:=MP O k m;have c1:=MV O e.good e.stk h;have f:=YW (E:=E) O c1;have j:=TC E (AE T (Ab s)).1;obtain⟨c,e1,g⟩:=YX n (a++[(AE T (Ab s)).1]) (Ce E (AE T (Ab s)).1).1 (AE T (Ab s)).2 e.good c1 h;refine⟨(AE T (Ab s)).1::c,by rw[e1];simp,?_⟩;rw[AO];cases d:(Ce E (AE T (Ab s)).1).2 with
   |none=>
    have b:=f.st;rw[d,G5] at b;rw[b,f.env d];exact⟨g.st,g.env⟩
   |some x=>
    rw[d] at j;have b:=f.st;rw[d] at b;have l:Aj T Bx (C2 T (some E) (Ab s)).2=false:=by rw[b,JV O Ai j];rfl
    rw[P2 l];exact⟨b,fun h0=>by cases h0⟩
  ·rw[Ae U,Ae U];exact⟨[],by simp,rfl,fun _=>rfl⟩
theorem AgE{s:PS}(V:An T s)(U:Av T s)(h:(BP T s).2.code=0):EV T (EH T (some E) s) (AO E (BP T s).1) (BP T s).2:=by
 obtain⟨c1,_,_⟩:=Bs (show(Am T AQ (Bw T T.length [(AE T s).1] (AE T s).2).2).code=0 from h);have c:=MP O V U;have f:=MV O c.good c.stk c1;have d:=YW (E:=E) O f;have e:=TC E (AE T s).1;obtain⟨i,e1,g⟩:=YX O T.length [(AE T s).1] (Ce E (AE T s).1).1 (AE T s).2 c.good f c1;show EV T ((ED T T.length (C2 T (some E) s).1 (C2 T (some E) s).2).1,Am T AQ (ED T T.length (C2 T (some E) s).1 (C2 T (some E) s).2).2) (AO E (Bw T T.length [(AE T s).1] (AE T s).2).1) (Am T AQ (Bw T T.length [(AE T s).1] (AE T s).2).2);rw[e1];show EV T _ (AO E ((AE T s).1::i)) _;rw[AO];cases b:(Ce E (AE T s).1).2 with
 |none=>
  have a:=d.st;rw[b,G5] at a;rw[a,d.env b];refine⟨?_,g.env⟩;show Am T AQ (ED T T.length (some (Ce E (AE T s).1).1) (AE T s).2).2=_;rw[g.st,Gv O Ai (LW _ _)];rfl
 |some x=>
  rw[b] at e;have a:=d.st;rw[b] at a;have j:Aj T Bx (C2 T (some E) s).2=false:=by rw[a,JV O Ai e];rfl
  rw[P2 j];refine⟨?_,fun h0=>by cases h0⟩;show Am T AQ (C2 T (some E) s).2=_;rw[a,Gv O Ai e];rfl
omit O in
theorem Y2{s:PS}(h:(Ap T s).2.code=0):EV T (DX T (some E) s) (AX E [(Ap T s).1]) (Ap T s).2:=by
 obtain⟨c1,_,e1⟩:=Ko h;have e4:(Ap T s).1=((Ad T s).text,(Ad T s).pos):=by rw[e1]
 rw[AX,AX,e4];have:=QD (T:=T) (E:=E) (here:=true) (s0:=s) (kind:=0) (args:=0) h;exact⟨by show _=after T (Option.or _ none) _;rw[Option.or_none];exact this.st,fun h0=>this.env (Bq h0).1⟩
theorem K8{n:Nat}{a:List A8}{s:PS}(V:An T s)(U:Av T s)(h:(Bp T n a s).2.code=0):s.code=0:=by have b:=PY (T:=T) n a s;exact(KX O n none s V U).code (by rw[b];exact h)
theorem QF: ∀(n:Nat)(a:List A8)(E:Ao)(s:PS),An T s->s.code=0->(Bp T n a s).2.code=0-> ∃c,(Bp T n a s).1=a++c/\EV T (EC T n (some E) s) (AX E c) (Bp T n a s).2
 |0,a,E,s,V,i,h=>⟨[],by simp[Bp],rfl,fun _=>rfl⟩
 |n+1,a,E,s,V,i,h=>by
  rw[Bp] at h;rw[Bp,EC];by_cases U:Aj T Bx s=true
  ·rw[Ag U] at h;rw[Ag U,Ag U];have k:=AD O V U Ai;have m:Av T (Ab s):=A4 i;have e:=EY O k m;have c1:=K8 O e.good e.stk h;have f:=Y2 (E:=E) c1;have j:=IQ [(Ap T (Ab s)).1] E;obtain⟨c,e1,g⟩:=QF n (a++[(Ap T (Ab s)).1]) (AX E [(Ap T (Ab s)).1]).1 (Ap T (Ab s)).2 e.good c1 h;refine⟨[(Ap T (Ab s)).1]++c,by rw[e1];simp,?_⟩;rw[Qf];cases d:(AX E [(Ap T (Ab s)).1]).2 with
   |none=>
    have b:=f.st;rw[d,G5] at b;rw[b,f.env d];exact⟨g.st,g.env⟩
   |some x=>
    rw[d] at j;have b:=f.st;rw[d] at b;have l:Aj T Bx (DX T (some E) (Ab s)).2=false:=by rw[b,JV O Ai j];rfl
    rw[PZ l];exact⟨b,fun h0=>by cases h0⟩
  ·rw[Ae U,Ae U];exact⟨[],by simp,rfl,fun _=>rfl⟩
theorem YU{s:PS}(V:An T s)(U:Av T s)(h:(Bf T s).2.code=0):EV T (C1 T (some E) s) (AX E (Bf T s).1) (Bf T s).2:=by
 have c:=EY O V U;have e:=K8 O c.good c.stk (show(Bp T T.length [(Ap T s).1] (Ap T s).2).2.code=0 from h);have d:=Y2 (E:=E) e;have g:=IQ [(Ap T s).1] E;obtain⟨j,e1,f⟩:=QF O T.length [(Ap T s).1] (AX E [(Ap T s).1]).1 (Ap T s).2 c.good e h;show EV T (EC T T.length (DX T (some E) s).1 (DX T (some E) s).2) (AX E (Bp T T.length [(Ap T s).1] (Ap T s).2).1) (Bp T T.length [(Ap T s).1] (Ap T s).2).2;rw[e1,Qf];cases b:(AX E [(Ap T s).1]).2 with
 |none=>
  have a:=d.st;rw[b,G5] at a;rw[a,d.env b];exact⟨f.st,f.env⟩
 |some x=>
  rw[b] at g;have a:=d.st;rw[b] at a;have i:Aj T Bx (DX T (some E) s).2=false:=by rw[a,JV O Ai g];rfl
  rw[PZ i];exact⟨a,fun h0=>by cases h0⟩
theorem SE{s:PS}(V:An T s)(U:Av T s):CZ T s (Bf T s).2:=by have:=JI O none V U;rw[SG] at this;exact this
theorem AgD{a:Option (Nat×Nat)}(b:Nz a){m:Option Ao}(d:a=none->m=some E){s:PS}(V:An T s)(U:Av T s)(h:(Bf T s).2.code=0):
 (C1 T m (after T a s)).2=after T (a.or (AX E (Bf T s).1).2) (Bf T s).2/\(a.or (AX E (Bf T s).1).2=none->(C1 T m (after T a s)).1=some (AX E (Bf T s).1).1):=by
 cases a with
 |none=>
  rw[d rfl];have:=YU (E:=E) O V U h;exact⟨this.st,this.env⟩
 |some x=>
  have c:An T (stop T x.1 x.2):=(LR O x.1 x.2 V).1;exact⟨(JI O m c (fun _=>rfl)).still (b x rfl),fun h0=>by cases h0⟩
end
