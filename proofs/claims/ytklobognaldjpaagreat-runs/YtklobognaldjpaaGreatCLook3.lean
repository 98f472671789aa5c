/- Plain functions: names looked at in the tree; brackets. Plai -/
import Derived.Test.YtklobognaldjpaaGreatCNam2
namespace Go.Proofs.YtklobognaldjpaaGreat
open Go.Proofs.Tryz
def Dz(E:Ao)(n:Af)(p kind:Nat):Option (Nat×Nat):=if(E.kindIx n).1=kind then none else some (6,p)
def GJ(E:Ao)(n:Af)(p kind many:Nat):Option (Nat×Nat):=if(E.kindIx n).1=kind then(if many=E.args n then none else some (7,p)) else some (6,p)
def GD(E:Ao)(n:Af)(p:Nat):Option (Nat×Nat):=if E.isRes n then none else Dz E n p 0
mutual
def AV(E:Ao):Ex->Option (Nat×Nat)
 |.nil=>none
 |.num _=>none
 |.var n p=>Dz E n p 0
 |.elem n p b=>(Dz E n p 1).or (AV E b)
 |.call n p args=>(GJ E n p 3 args.length).or (Cy E args)
 |.bin _ l r=>(AV E l).or (AV E r)
 |.un _ a=>AV E a
def Cy(E:Ao):List Ex->Option (Nat×Nat)
 |[]=>none
 |a::l=>(AV E a).or (Cy E l)
end
mutual
def A5(E:Ao):St->Option (Nat×Nat)
 |.nil=>none
 |.assign n p a=>(GD E n p).or (AV E a)
 |.put n p d a=>((Dz E n p 1).or (AV E d)).or (AV E a)
 |.proc n p args=>(GJ E n p 2 args.length).or (Cy E args)
 |.ite c e f=>((AV E c).or (A5 E e)).or (A5 E f)
 |.loop c b=>(AV E c).or (A5 E b)
 |.block l=>Bz E l
 |.write a=>AV E a
 |.read n p=>Dz E n p 0
def Bz(E:Ao):List St->Option (Nat×Nat)
 |[]=>none
 |a::l=>(A5 E a).or (Bz E l)
end
def Nz(f:Option (Nat×Nat)):Prop:= ∀x,f=some x->x.1≠0
theorem Nz.none:Nz none:=fun _ h=>by cases h
theorem Nz.or{a b:Option (Nat×Nat)}(c:Nz a)(C:Nz b):Nz (a.or b):=by
 intro x hx;cases a with
 |none=>exact C x (by simpa using hx)
 |some d=>exact c x (by simpa using hx)
theorem IR(E:Ao)(n:Af)(p kind:Nat):Nz (Dz E n p kind):=by
 intro x hx;unfold Dz at hx;split at hx
 ·cases hx
 ·cases hx;simp
theorem OD(E:Ao)(n:Af)(p kind many:Nat):Nz (GJ E n p kind many):=by
 intro x hx;unfold GJ at hx;split at hx
 ·split at hx
  ·cases hx
  ·cases hx;simp
 ·cases hx;simp
theorem TB(E:Ao)(n:Af)(p:Nat):Nz (GD E n p):=by
 unfold GD;split
 ·exact .none
 ·exact IR _ _ _ _
mutual
theorem DG(E:Ao): ∀a,Nz (AV E a)
 |.nil=>by rw[AV];exact .none
 |.num _=>by rw[AV];exact .none
 |.var n p=>by rw[AV];exact IR _ _ _ _
 |.elem n p b=>by rw[AV];exact(IR _ _ _ _).or (DG E b)
 |.call n p args=>by rw[AV];exact(OD _ _ _ _ _).or (Qp E args)
 |.bin _ l r=>by rw[AV];exact(DG E l).or (DG E r)
 |.un _ a=>by rw[AV];exact DG E a
theorem Qp(E:Ao): ∀l,Nz (Cy E l)
 |[]=>by rw[Cy];exact .none
 |a::l=>by rw[Cy];exact(DG E a).or (Qp E l)
end
mutual
theorem Nk(E:Ao): ∀a,Nz (A5 E a)
 |.nil=>by rw[A5];exact .none
 |.assign n p a=>by rw[A5];exact(TB _ _ _).or (DG E a)
 |.put n p d a=>by rw[A5];exact((IR _ _ _ _).or (DG E d)).or (DG E a)
 |.proc n p args=>by rw[A5];exact(OD _ _ _ _ _).or (Qp E args)
 |.ite c e f=>by rw[A5];exact((DG E c).or (Nk E e)).or (Nk E f)
 |.loop c b=>by rw[A5];exact(DG E c).or (Nk E b)
 |.block l=>by rw[A5];exact Jj E l
 |.write a=>by rw[A5];exact DG E a
 |.read n p=>by rw[A5];exact IR _ _ _ _
theorem Jj(E:Ao): ∀l,Nz (Bz E l)
 |[]=>by rw[Bz];exact .none
 |a::l=>by rw[Bz];exact(Nk E a).or (Jj E l)
end
theorem Qe(E:Ao)(a:Ex): ∀l,Cy E (l++[a])=(Cy E l).or (AV E a)
 |[]=>by simp[Cy]
 |b::l=>by show Cy E (b::(l++[a]))=_;rw[Cy,Cy,Qe E a l,Mt]
theorem Tl(E:Ao)(a:List St): ∀l,Bz E (l++a)=(Bz E l).or (Bz E a)
 |[]=>by simp[Bz]
 |b::l=>by show Bz E (b::(l++a))=_;rw[Bz,Bz,Tl E a l,Mt]
section
variable(T:List Az)
def after(f:Option (Nat×Nat))(r:PS):PS:=
 match f with
 |none=>r
 |some x=>stop T x.1 x.2
def Br:Prop:= ∀a∈T,a.kind=.name\/a.kind=.number->JL a=false/\Kg a=false/\FN a=false
def FF(O:AU):Prop:= ∀s,An T s->Av T s->s.code=0->(O s).2.code=0-> ∀o n,CH (T.drop s.next) o n=CH (T.drop (O s).2.next) o n
end
section
variable{T:List Az}
theorem JD{s:PS}(V:An T s):T.drop s.next=Ad T s::T.drop (s.next+1):=by have h:s.next<T.length:=V;rw[NN h];unfold Ad;rw[Dg,Bb h];rfl
theorem PC{s:PS}(V:An T s):Ad T s∈T:=by unfold Ad;rw[Dg,Bb V];exact D4 V
theorem I7(l:List UInt8):(bs l).toList=l:=by rw[EU];rfl
theorem O5{l:List UInt8}{s:PS}(h:Aj T (bs l) s=true):(Ad T s).text.toList=l:=by unfold Aj at h;rw[I7] at h;simpa using h
theorem MU(a:Az):JL a=((a.text.toList==[40])||(a.text.toList==[91])):=by unfold JL;rw[I7,I7]
theorem Ot(a:Az):Kg a=((a.text.toList==[41])||(a.text.toList==[93])):=by unfold Kg;rw[I7,I7]
theorem SI(a:Az):FN a=(a.text.toList==[44]):=by unfold FN;rw[I7]
def Ks(l:List UInt8):Bool:= !(l==[40])&& !(l==[91])&& !(l==[41])&& !(l==[93])&& !(l==[44])
theorem Wk{s:PS}(V:An T s)(h:JL (Ad T s)=false/\Kg (Ad T s)=false/\FN (Ad T s)=false)(o n:Nat):CH (T.drop s.next) o n=CH (T.drop (s.next+1)) o n:=by rw[JD V,CH,h.1,h.2.1,h.2.2];simp
theorem PQ{l:List UInt8}{s:PS}(V:An T s)(h:Aj T (bs l) s=true)(a:Ks l=true)(o n:Nat):CH (T.drop s.next) o n=CH (T.drop (Ab s).next) o n:=by have b:=O5 h;refine Wk V ?_ o n;rw[MU,Ot,SI,b];simp only[Ks,NG,Bool.not_eq_true'] at a;obtain⟨⟨⟨⟨h1,h2⟩,h3⟩,c⟩,d⟩:=a;rw[h1,h2,h3,c,d];exact⟨rfl,rfl,rfl⟩
theorem Wj(b:Br T){a:TK}{s:PS}(V:An T s)(h:AN T a s=true)(c:a=.name\/a=.number)(o n:Nat):CH (T.drop s.next) o n=CH (T.drop (Ab s).next) o n:=by
 refine Wk V (b _ (PC V) ?_) o n;have:(Ad T s).kind=a:=by simpa[AN] using h
 rw[this];exact c
section
variable{l:List UInt8}{s:PS}(V:An T s)(h:Aj T (bs l) s=true)
include V h
theorem SA(b:l=[40]\/l=[91])(o n:Nat):CH (T.drop s.next) o n=CH (T.drop (Ab s).next) (o+1) n:=by
 have a:=O5 h;rw[JD V,CH];have:JL (Ad T s)=true:=by rw[MU,a];rcases b with rfl|rfl<;>decide
 rw[this];rfl
theorem PP(b:l=[41]\/l=[93])(o n:Nat):CH (T.drop s.next) (o+1) n=CH (T.drop (Ab s).next) o n:=by
 have a:=O5 h;rw[JD V,CH];have h1:JL (Ad T s)=false:=by rw[MU,a];rcases b with rfl|rfl<;>decide
 have h2:Kg (Ad T s)=true:=by rw[Ot,a];rcases b with rfl|rfl<;>decide
 rw[h1,h2];simp;rfl
theorem Wi(b:l=[41]\/l=[93])(n:Nat):CH (T.drop s.next) 0 n=n:=by
 have a:=O5 h;rw[JD V,CH];have h1:JL (Ad T s)=false:=by rw[MU,a];rcases b with rfl|rfl<;>decide
 have h2:Kg (Ad T s)=true:=by rw[Ot,a];rcases b with rfl|rfl<;>decide
 rw[h1,h2];simp
end
theorem Wh{s:PS}(V:An T s)(h:Aj T Bx s=true)(o n:Nat):CH (T.drop s.next) o n=CH (T.drop (Ab s).next) o (if o=0 then n+1 else n):=by
 have a:=O5 h;rw[JD V,CH];have h1:JL (Ad T s)=false:=by rw[MU,a];decide
 have h2:Kg (Ad T s)=false:=by rw[Ot,a];decide
 have h3:FN (Ad T s)=true:=by rw[SI,a];decide
 rw[h1,h2,h3];by_cases b:o=0
 ·simp[b];rfl
 ·simp[b];rfl
theorem Bs{x:Af}{r:PS}(h:(Am T x r).code=0):r.code=0/\Aj T x r=true/\Am T x r=Ab r:=by
 unfold Am at*;split at h
 ·rename_i a;exact⟨h,a,by rw[Ag a]⟩
 ·exfalso;unfold AI at h;simp only at h;split at h
  ·cases h
  ·rename_i hc;exact hc h
theorem Eu{α:Type}{O:PS->α×PS}(Y:SM T O){r:PS}(a:Av T r)(h:(O r).2.code=0):r.code=0:=by
 by_cases hc:r.code=0
 ·exact hc
 ·rw[(Y r a).2 hc] at h;exact h
theorem D0{s:PS}(h:s.code=0):Av T s:=fun hc=>absurd h hc
variable(U:AR T){E:Ao}
include U
theorem JB{a:List Af}(b: ∀f∈a,f.toList≠[]){s:PS}(V:An T s)(h:CL T a s=true):An T (Ab s):=by obtain⟨f,K,c⟩:=IX.1 h;exact AD U V c (b f K)
theorem JC{O:AU}(Y:SM T O){a:List Af}(b: ∀f∈a,f.toList≠[]){n:Nat}{l:Ex}{s:PS}(c:Av T s)(h:(Bi T O a n l s).2.code=0):s.code=0:=by
 by_cases hc:s.code=0
 ·exact hc
 ·rw[(Kv U Y b n l s c).2 hc] at h;exact h
theorem U1{O:AU}(N:FF T O)(I:AM T O)(Y:SM T O){a:List Af}(g: ∀f∈a,f.toList≠[])(i: ∀f∈a,∃l,f=bs l/\Ks l=true):
 ∀(n:Nat)(l:Ex)(s:PS),An T s->s.code=0->(Bi T O a n l s).2.code=0-> ∀o c,CH (T.drop s.next) o c=CH (T.drop (Bi T O a n l s).2.next) o c
 |0,l,s,V,hc,h=>fun o c=>rfl
 |n+1,l,s,V,hc,h=>by
  intro o c;rw[Bi] at h⊢;by_cases d:CL T a s=true
  ·rw[Ag d] at h⊢;have j:=JB U g V d;have e:(Ab s).code=0:=hc;have k:=JC U Y g (Y _ (D0 (T:=T) e)).1 h;obtain⟨f,K,m⟩:=IX.1 d;obtain⟨b,rfl,C⟩:=i f K;rw[PQ V m C,N _ j (D0 e) e k];exact U1 N I Y g i n _ _ (I _ j).1 k h o c
  ·rw[Ae d]
theorem Pu{O:AU}(N:FF T O)(I:AM T O)(Y:SM T O){a:List Af}(b: ∀f∈a,f.toList≠[])(e: ∀f∈a,∃l,f=bs l/\Ks l=true):FF T (BU T O a):=by intro s V d hc h o n;have c:=JC U Y b (Y s d).1 h;rw[N s V d hc c];exact U1 U N I Y b e _ _ _ (I s V).1 c h o n
omit U in
theorem OI:(∀f∈Db,∃l,f=bs l/\Ks l=true)/\(∀f∈C9,∃l,f=bs l/\Ks l=true)/\(∀f∈C5,∃l,f=bs l/\Ks l=true)/\(∀f∈MB,∃l,f=bs l/\Ks l=true)/\(∀f∈No,∃l,f=bs l/\Ks l=true):=by
 refine⟨?_,?_,?_,?_,?_⟩
 ·intro f K;simp[Db] at K;rcases K with rfl|rfl|rfl<;>exact⟨_,rfl,by decide⟩
 ·intro f K;simp[C9] at K;rcases K with rfl|rfl<;>exact⟨_,rfl,by decide⟩
 ·intro f K;simp[C5] at K;rcases K with rfl|rfl|rfl|rfl<;>exact⟨_,rfl,by decide⟩
 ·intro f K;simp[MB] at K;subst K;exact⟨_,rfl,by decide⟩
 ·intro f K;simp[No] at K;subst K;exact⟨_,rfl,by decide⟩
section
variable{O:AU}(N:FF T O)(I:AM T O)(Y:SM T O)
include N I Y
theorem Abj:FF T (DM T O):=by
 intro s V c hc h o n;unfold DM at h⊢;by_cases hz:CL T C5 (O s).2=true
 ·rw[Ag hz] at h⊢;have a:=GK U (Y s c).1 BG.2.2.1 hz;have d:=JB U BG.2.2.1 (I s V).1 hz;obtain⟨f,K,e⟩:=IX.1 hz;obtain⟨b,rfl,C⟩:=OI.2.2.1 f K;rw[N s V c hc a,PQ (I s V).1 e C,N _ d (D0 a) a h]
 ·rw[Ae hz] at h⊢;exact N s V c hc h o n
theorem U3:FF T (EA T O):=by have a:FF T (Jr T O):=Pu U N I Y BG.1 OI.1;have b:FF T (Fq T O):=Pu U a (Kl U I) (Kw U Y) BG.2.1 OI.2.1;have c:FF T (Hi T O):=Abj U b (Kk U I) (Lj U Y);have d:FF T (I5 T O):=Pu U c (Km U I) (Kx U Y) BG.2.2.2.1 OI.2.2.2.1;exact Pu U d (Ki U I) (Ku U Y) BG.2.2.2.2 OI.2.2.2.2
end
theorem Iy{O:AU}(Y:SM T O){n:Nat}{l:List Ex}{s:PS}(a:Av T s)(h:(Bj T O n l s).2.code=0):s.code=0:=by
 by_cases hc:s.code=0
 ·exact hc
 ·rw[(OR U Y n l s a).2 hc] at h;exact h
theorem U0{O:AU}(N:FF T O)(I:AM T O)(Y:SM T O):
 ∀(n:Nat)(l:List Ex)(s:PS),An T s->s.code=0->(Bj T O n l s).2.code=0-> ∀o a,CH (T.drop s.next) (o+1) a=CH (T.drop (Bj T O n l s).2.next) (o+1) a
 |0,l,s,V,hc,h=>fun o a=>rfl
 |n+1,l,s,V,hc,h=>by
  intro o a;rw[Bj] at h⊢;by_cases b:Aj T Bx s=true
  ·rw[Ag b] at h⊢;have d:=AD U V b Ai;have c:(Ab s).code=0:=hc;have e:=Iy U Y (Y _ (D0 (T:=T) c)).1 h;rw[Wh V b,Ae (by omega),N _ d (D0 c) c e];exact U0 N I Y n _ _ (I _ d).1 e h o a
  ·rw[Ae b]
theorem XM{O:AU}(N:FF T O)(I:AM T O)(Y:SM T O):
 ∀(n:Nat)(l:List Ex)(s:PS),An T s->s.code=0->(Bj T O n l s).2.code=0->Aj T AJ (Bj T O n l s).2=true->CH (T.drop s.next) 0 l.length=(Bj T O n l s).1.length
 |0,l,s,V,hc,h,a=>Wi V a (.inl rfl) _
 |n+1,l,s,V,hc,h,a=>by
  rw[Bj] at h a⊢;by_cases b:Aj T Bx s=true
  ·rw[Ag b] at h a⊢;have d:=AD U V b Ai;have c:(Ab s).code=0:=hc;have e:=Iy U Y (Y _ (D0 (T:=T) c)).1 h;rw[Wh V b,Ag rfl,N _ d (D0 c) c e];have:=XM N I Y n (l++[(O (Ab s)).1]) _ (I _ d).1 e h a;rw[AG] at this;exact this
  ·rw[Ae b] at h a⊢;exact Wi V a (.inl rfl) _
section
variable{O:AU}(N:FF T O)(I:AM T O)(Y:SM T O){s:PS}
include N I Y
theorem Abg(V:An T s)(hc:s.code=0)(h:(Ba T O s).2.code=0)(o n:Nat):CH (T.drop s.next) (o+1) n=CH (T.drop (Ba T O s).2.next) o n:=by
 unfold Ba at h⊢;by_cases a:Aj T AJ s=true
 ·rw[Ag a];exact PP V a (.inl rfl) o n
 ·rw[Ae a] at h⊢;obtain⟨h1,h2,h3⟩:=Bs h;have b:=Iy U Y (Y s (D0 hc)).1 h1;have c:=(Qi U I T.length [(O s).1] _ (I s V).1).1;show _=CH (T.drop (Am T AJ _).next) o n;rw[h3,N s V (D0 hc) hc b,U0 U N I Y _ _ _ (I s V).1 b h1,PP c h2 (.inl rfl)]
theorem Wg(V:An T (Ab (Ab s)))(hc:s.code=0)(h:(Ba T O (Ab (Ab s))).2.code=0):Ih T s=(Ba T O (Ab (Ab s))).1.length:=by
 unfold Ih;unfold Ba at h⊢;have b:(Ab (Ab s)).code=0:=hc;by_cases a:Aj T AJ (Ab (Ab s))=true
 ·rw[Ag a,Ag a];rfl
 ·rw[Ae a] at h;rw[Ae a,Ae a];obtain⟨h1,h2,h3⟩:=Bs h;have c:=Iy U Y (Y _ (D0 b)).1 h1;have d:T.drop (s.next+2)=T.drop (Ab (Ab s)).next:=rfl
  rw[d,N _ V (D0 b) b c];exact XM U N I Y T.length [_] _ (I _ V).1 c h1 h2
end
omit U in
theorem Abh{O:AU}(N:FF T O)(I:AM T O){s:PS}(V:An T s)(hc:s.code=0)(h:(Cg T O s).2.code=0)(o n:Nat):CH (T.drop s.next) (o+1) n=CH (T.drop (Cg T O s).2.next) o n:=by have h':(Am T Cn (O s).2).code=0:=h;obtain⟨h1,h2,h3⟩:=Bs h';show _=CH (T.drop (Am T Cn (O s).2).next) o n;rw[h3,N s V (D0 hc) hc h1,PP (I s V).1 h2 (.inr rfl)]
theorem Abi{O:AU}(c:Br T)(N:FF T O)(I:AM T O)(Y:SM T O){s:PS}(V:An T s)(hc:s.code=0)(b:AN T .name s=true)(h:(Do T none O s).2.code=0)(o n:Nat):CH (T.drop s.next) o n=CH (T.drop (Do T none O s).2.next) o n:=by
 have a:=EZ U V b (by decide);have d:(Ab s).code=0:=hc;rw[Wj c V b (.inl rfl)];unfold Do at h⊢;by_cases h1:Aj T Bl (Ab s)=true
 ·rw[Ag h1] at h⊢;rw[SA a h1 (.inl rfl)];exact Abg U N I Y (AD U a h1 Ai) hc h o n
 ·rw[Ae h1] at h⊢;by_cases h2:Aj T BL (Ab s)=true
  ·rw[Ag h2] at h⊢;rw[SA a h2 (.inr rfl)];exact Abh N I (AD U a h2 Ai) hc h o n
  ·rw[Ae h2];rfl
theorem U4(f:Br T): ∀c,FF T (Bk T none c)
 |0=>fun s V r hc h=>by exfalso;have:(AI T 5 s).code=0:=h;simp[AI,hc] at this
 |c+1=>fun s V r hc h o n=>by
  have i:=U4 f c;have g:=Gm U none c;have j:=Fi U none c;have k:=U3 U i g j;have a:(Ab s).code=0:=hc;rw[Bk] at h⊢;by_cases h1:AN T .number s=true
  ·rw[Ag h1] at h⊢;have q:(BV T s).2=Ab s:=by unfold BV;rw[Ag h1]
   show _=CH (T.drop (BV T s).2.next) o n;rw[q];exact Wj f V h1 (.inr rfl) o n
  ·rw[Ae h1] at h⊢;by_cases h2:AN T .name s=true
   ·rw[Ag h2] at h⊢;exact Abi U f k (IK U g) (JX U j) V hc h2 h o n
   ·rw[Ae h2] at h⊢;by_cases h3:Aj T Bl s=true
    ·rw[Ag h3] at h⊢;have b:=AD U V h3 Ai;obtain⟨l,m,p⟩:=Bs h;show _=CH (T.drop (Am T AJ _).next) o n;rw[p,SA V h3 (.inl rfl),k _ b (D0 a) a l,PP (IK U g _ b).1 m (.inl rfl)]
    ·rw[Ae h3] at h⊢;by_cases d:Aj T FA s=true
     ·rw[Ag d] at h⊢;have b:=AD U V d Ai;rw[PQ V d (by decide)];exact i _ b (D0 a) a h o n
     ·rw[Ae d] at h⊢;by_cases e:Aj T GP s=true
      ·rw[Ag e] at h⊢;have b:=AD U V e Ai;rw[PQ V e (by decide)];exact i _ b (D0 a) a h o n
      ·rw[Ae e] at h;exfalso;have:(AI T 4 s).code=0:=h;simp[AI,hc] at this
theorem U2(b:Br T)(a:Nat):FF T (BA T none a):=U3 U (U4 U b a) (Gm U none a) (Fi U none a)
end
section
variable{T:List Az}{E:Ao}
def Fv(T:List Az)(E:Ao)(O X:AU):Prop:= ∀s,An T s->s.code=0->(O s).2.code=0->(X s).2=after T (AV E (O s).1) (O s).2
def Lt(T:List Az)(E:Ao)(O X:PS->St×PS):Prop:= ∀s,An T s->s.code=0->(O s).2.code=0->(X s).2=after T (A5 E (O s).1) (O s).2
theorem G5(r:PS):after T none r=r:=rfl
variable(U:AR T)
include U
omit U in
theorem ZD{α:Type}{X:PS->α×PS}(Y:SM T X){x:Nat×Nat}(hx:x.1≠0):(X (stop T x.1 x.2)).2=stop T x.1 x.2:=(Y _ (fun _=>rfl)).2 hx
omit U in
theorem Fv.on{O X:AU}(J:Fv T E O X)(Y:SM T X){f:Option (Nat×Nat)}(K:Nz f){r:PS}(V:An T r)(hc:r.code=0)(h2:(O r).2.code=0):(X (after T f r)).2=after T (f.or (AV E (O r).1)) (O r).2:=by
 cases f with
 |none=>exact J r V hc h2
 |some x=>exact ZD Y (K x rfl)
omit U in
theorem Lt.on{O X:PS->St×PS}(J:Lt T E O X)(Y:SM T X){f:Option (Nat×Nat)}(K:Nz f){r:PS}(V:An T r)(hc:r.code=0)(h2:(O r).2.code=0):(X (after T f r)).2=after T (f.or (A5 E (O r).1)) (O r).2:=by
 cases f with
 |none=>exact J r V hc h2
 |some x=>exact ZD Y (K x rfl)
section
variable{b:Af}(C:b.toList≠[]){f:Option (Nat×Nat)}(K:Nz f)(r:PS)
include C K r
theorem Gv:Am T b (after T f r)=after T f (Am T b r):=by
 cases f with
 |none=>rfl
 |some x=>exact(Dq U C (fun _=>rfl)).2 (K x rfl)
theorem JV:Aj T b (after T f r)=(f.isNone&&Aj T b r):=by
 cases f with
 |none=>rfl
 |some x=>exact IT U (fun _=>rfl) (K x rfl) C
end
theorem YR{O X:AU}(J:Fv T E O X)(I:AM T O)(Y:SM T O)(i:SM T X){a:List Af}(d: ∀f∈a,f.toList≠[]):
 ∀(n:Nat)(l e:Ex)(s:PS),An T s->s.code=0->(Bi T O a n l s).2.code=0-> ∃c,Nz c/\AV E (Bi T O a n l s).1=(AV E l).or c/\(Bi T X a n e s).2=after T c (Bi T O a n l s).2
 |0,l,e,s,V,hc,h=>⟨none,.none,by simp[Bi],rfl⟩
 |n+1,l,e,s,V,hc,h=>by
  rw[Bi] at h;rw[Bi,Bi];by_cases b:CL T a s=true
  ·rw[Ag b] at h;rw[Ag b,Ag b];have k:=JB U d V b;have j:(Ab s).code=0:=hc;have o:=JC U Y d (Y _ (D0 (T:=T) j)).1 h;have g:=J _ k j o;obtain⟨c,p,h1,h2⟩:=YR J I Y i d n (.bin (Ad T s).text l (O (Ab s)).1) (.bin (Ad T s).text e (X (Ab s)).1) (O (Ab s)).2 (I _ k).1 o h;refine⟨(AV E (O (Ab s)).1).or c,(DG E _).or p,?_,?_⟩
   ·rw[h1,AV,Mt]
   ·rw[g];cases m:AV E (O (Ab s)).1 with
    |none=>rw[m] at g;rw[G5,h2];rfl
    |some x=>
     show(Bi T X a n _ (stop T x.1 x.2)).2=stop T x.1 x.2;exact(Kv U i d n _ _ (fun _=>rfl)).2 (DG E _ x m)
  ·rw[Ae b,Ae b];exact⟨none,.none,by simp,rfl⟩
section
variable{O X:AU}(J:Fv T E O X)(I:AM T O)(Y:SM T O)
include J I Y
theorem QC(c:SM T X){a:List Af}(b: ∀f∈a,f.toList≠[]):Fv T E (BU T O a) (BU T X a):=by
 intro s V hc h;have d:=JC U Y b (Y s (D0 hc)).1 h;have e:=J s V hc d;obtain⟨i,j,h1,h2⟩:=YR U J I Y c b T.length (O s).1 (X s).1 (O s).2 (I s V).1 d h;show(Bi T X a T.length (X s).1 (X s).2).2=after T (AV E (Bi T O a T.length (O s).1 (O s).2).1) (Bi T O a T.length (O s).1 (O s).2).2;rw[h1,e];cases g:AV E (O s).1 with
 |none=>rw[G5,h2];rfl
 |some x=>exact(Kv U c b _ _ _ (fun _=>rfl)).2 (DG E _ x g)
theorem AgK:Fv T E (DM T O) (DM T X):=by
 intro s V hc h;have i:=D0 (T:=T) hc;unfold DM at h⊢;by_cases hz:CL T C5 (O s).2=true
 ·rw[Ag hz] at h⊢;have f:=GK U (Y s i).1 BG.2.2.1 hz;have g:=JB U BG.2.2.1 (I s V).1 hz;have a:=J s V hc f;show _=after T (AV E (.bin _ (O s).1 (O (Ab (O s).2)).1)) _;rw[AV];cases b:AV E (O s).1 with
  |none=>
   rw[b,G5] at a;rw[a,Ag hz];exact J _ g f h
  |some x=>
   rw[b] at a;have hx:=DG E _ x b;have e:(X s).2=stop T x.1 x.2:=a
   have d:CL T C5 (X s).2=false:=by
    rw[e];cases c:CL T C5 (stop T x.1 x.2) with
    |false=>rfl
    |true=>exact absurd (GK U (fun _=>rfl) BG.2.2.1 c) hx
   rw[Ae (by rw[d];simp),e];rfl
 ·rw[Ae hz] at h;have a:=J s V hc h;rw[Ae hz]
  have d: ¬CL T C5 (X s).2=true:=by
   rw[a];cases b:AV E (O s).1 with
   |none=>exact hz
   |some x=>intro c;exact DG E _ x b (GK U (fun _=>rfl) BG.2.2.1 c)
  rw[Ae d];exact a
theorem YS(a:SM T X):Fv T E (EA T O) (EA T X):=by have b:Fv T E (Jr T O) (Jr T X):=QC U J I Y a BG.1;have c:Fv T E (Fq T O) (Fq T X):=QC U b (Kl U I) (Kw U Y) (Kw U a) BG.2.1;have d:Fv T E (Hi T O) (Hi T X):=AgK U c (Kk U I) (Lj U Y);have e:Fv T E (I5 T O) (I5 T X):=QC U d (Km U I) (Kx U Y) (Kx U a) BG.2.2.2.1;exact QC U e (Ki U I) (Ku U Y) (Ku U a) BG.2.2.2.2
end
theorem YO{O X:AU}(J:Fv T E O X)(I:AM T O)(Y:SM T O)(d:SM T X):
 ∀(n:Nat)(l c:List Ex)(s:PS),An T s->s.code=0->(Bj T O n l s).2.code=0-> ∃b,Nz b/\Cy E (Bj T O n l s).1=(Cy E l).or b/\(Bj T X n c s).2=after T b (Bj T O n l s).2
 |0,l,c,s,V,hc,h=>⟨none,.none,by simp[Bj],rfl⟩
 |n+1,l,c,s,V,hc,h=>by
  rw[Bj] at h;rw[Bj,Bj];by_cases a:Aj T Bx s=true
  ·rw[Ag a] at h;rw[Ag a,Ag a];have f:=AD U V a Ai;have e:(Ab s).code=0:=hc;have g:=Iy U Y (Y _ (D0 (T:=T) e)).1 h;have i:=J _ f e g;obtain⟨b,j,h1,h2⟩:=YO J I Y d n (l++[(O (Ab s)).1]) (c++[(X (Ab s)).1]) (O (Ab s)).2 (I _ f).1 g h;refine⟨(AV E (O (Ab s)).1).or b,(DG E _).or j,?_,?_⟩
   ·rw[h1,Qe,Mt]
   ·rw[i];cases k:AV E (O (Ab s)).1 with
    |none=>rw[G5,h2];rfl
    |some x=>exact(OR U d n _ _ (fun _=>rfl)).2 (DG E _ x k)
  ·rw[Ae a,Ae a];exact⟨none,.none,by simp,rfl⟩
theorem YP{O X:AU}(J:Fv T E O X)(I:AM T O)(Y:SM T O)(b:SM T X){f:Option (Nat×Nat)}(K:Nz f){s:PS}(V:An T s)(hc:s.code=0)(h:(Ba T O s).2.code=0):
 (Ba T X (after T f s)).2=after T (f.or (Cy E (Ba T O s).1)) (Ba T O s).2:=by
 cases f with
 |some x=>exact(Li U b _ (fun _=>rfl)).2 (K x rfl)
 |none=>
  rw[G5];show _=after T (Cy E (Ba T O s).1) _;unfold Ba at h⊢;by_cases a:Aj T AJ s=true
  ·rw[Ag a,Ag a];show Ab s=after T (Cy E []) (Ab s);rw[Cy];rfl
  ·rw[Ae a] at h;rw[Ae a,Ae a];obtain⟨h1,h2,h3⟩:=Bs h;have c:=Iy U Y (Y s (D0 hc)).1 h1;have d:=J s V hc c;obtain⟨m,k,e,g⟩:=YO U J I Y b T.length [(O s).1] [(X s).1] (O s).2 (I s V).1 c h1;show Am T AJ (Bj T X T.length [(X s).1] (X s).2).2=after T (Cy E (Bj T O T.length [(O s).1] (O s).2).1) (Am T AJ (Bj T O T.length [(O s).1] (O s).2).2);rw[e,d];have i:Cy E [(O s).1]=AV E (O s).1:=by rw[Cy,Cy];simp
   rw[i];cases l:AV E (O s).1 with
   |none=>rw[G5,g,Gv U Ai k];rfl
   |some x=>
    have hx:=DG E _ x l;have j:(Bj T X T.length [(X s).1] (after T (some x) (O s).2)).2=stop T x.1 x.2:=(OR U b _ _ _ (fun _=>rfl)).2 hx;rw[j];exact(Dq U Ai (fun _=>rfl)).2 hx
theorem YV{O X:AU}(J:Fv T E O X)(a:SM T X){f:Option (Nat×Nat)}(K:Nz f){s:PS}(V:An T s)(hc:s.code=0)(h:(Cg T O s).2.code=0):
 (Cg T X (after T f s)).2=after T (f.or (AV E (O s).1)) (Cg T O s).2:=by
 obtain⟨h1,_,_⟩:=Bs (show(Am T Cn (O s).2).code=0 from h);show Am T Cn (X (after T f s)).2=after T _ (Am T Cn (O s).2);rw[J.on a K V hc h1,Gv U Ai (K.or (DG E _))]
omit U in
theorem O9(s0:PS)(kind:Nat)(s:PS):Cs T (some E) s0 kind s=after T (Dz E (Ad T s0).text (Ad T s0).pos kind) s:=by unfold Cs Dz;simp only;split<;>rfl
omit U in
theorem Vi(s0:PS)(kind:Nat)(s:PS):Fb T (some E) s0 kind s=after T (GJ E (Ad T s0).text (Ad T s0).pos kind (Ih T s0)) s:=by
 unfold Fb GJ;simp only;split
 ·split<;>rfl
 ·rfl
omit U in
theorem Aba(s0:PS)(s:PS):FK T (some E) s0 s=after T (GD E (Ad T s0).text (Ad T s0).pos) s:=by
 unfold FK GD;simp only;split
 ·rfl
 ·exact O9 s0 0 s
theorem AgF{O X:AU}(N:FF T O)(J:Fv T E O X)(I:AM T O)(Y:SM T O)(b:SM T X){s:PS}(V:An T s)(hc:s.code=0)(d:AN T .name s=true)(h:(Do T none O s).2.code=0):
 (Do T (some E) X s).2=after T (AV E (Do T none O s).1) (Do T none O s).2:=by
 have c:=EZ U V d (by decide);unfold Do at h⊢;by_cases h1:Aj T Bl (Ab s)=true
 ·rw[Ag h1] at h;rw[Ag h1,Ag h1];have a:=AD U c h1 Ai;show(Ba T X (Fb T (some E) s 3 (Ab (Ab s)))).2=after T (AV E (.call _ _ (Ba T O (Ab (Ab s))).1)) (Ba T O (Ab (Ab s))).2;rw[Vi,Wg U N I Y a hc h,AV];exact YP U J I Y b (OD _ _ _ _ _) a hc h
 ·rw[Ae h1] at h;rw[Ae h1,Ae h1];by_cases h2:Aj T BL (Ab s)=true
  ·rw[Ag h2] at h;rw[Ag h2,Ag h2];have a:=AD U c h2 Ai;show(Cg T X (Cs T (some E) s 1 (Ab (Ab s)))).2=after T (AV E (.elem _ _ (O (Ab (Ab s))).1)) (Cg T O (Ab (Ab s))).2;rw[O9,AV];exact YV U J b (IR _ _ _ _) a hc h
  ·rw[Ae h2,Ae h2];show Cs T (some E) s 0 (Ab s)=after T (AV E (.var _ _)) (Ab s);rw[O9,AV]
theorem YT(g:Br T): ∀a,Fv T E (Bk T none a) (Bk T (some E) a)
 |0=>fun s V hc h=>by exfalso;have:(AI T 5 s).code=0:=h;simp[AI,hc] at this
 |a+1=>fun s V hc h=>by
  have f:=YT g a;have i:=Gm U none a;have k:=Fi U none a;have j:=Fi U (some E) a;have l:=YS U f i k j;have e:(Ab s).code=0:=hc;rw[Bk] at h;rw[Bk,Bk];by_cases h1:AN T .number s=true
  ·rw[Ag h1,Ag h1];show(BV T s).2=after T (AV E (.num _)) (BV T s).2;rw[AV];rfl
  ·rw[Ae h1] at h;rw[Ae h1,Ae h1];by_cases h2:AN T .name s=true
   ·rw[Ag h2] at h;rw[Ag h2,Ag h2];exact AgF U (U2 U g a) l (IK U i) (JX U k) (JX U j) V hc h2 h
   ·rw[Ae h2] at h;rw[Ae h2,Ae h2];by_cases h3:Aj T Bl s=true
    ·rw[Ag h3] at h;rw[Ag h3,Ag h3];have d:=AD U V h3 Ai;obtain⟨m,_,_⟩:=Bs h;show Am T AJ (EA T (Bk T (some E) a) (Ab s)).2=after T _ (Am T AJ _);rw[l _ d e m,Gv U Ai (DG E _)]
    ·rw[Ae h3] at h;rw[Ae h3,Ae h3];by_cases b:Aj T FA s=true
     ·rw[Ag b] at h;rw[Ag b,Ag b];have d:=AD U V b Ai;show _=after T (AV E (.un _ _)) _;rw[AV];exact f _ d e h
     ·rw[Ae b] at h;rw[Ae b,Ae b];by_cases c:Aj T GP s=true
      ·rw[Ag c] at h;rw[Ag c,Ag c];have d:=AD U V c Ai;show _=after T (AV E (.un _ _)) _;rw[AV];exact f _ d e h
      ·rw[Ae c] at h;exfalso;have:(AI T 4 s).code=0:=h;simp[AI,hc] at this
theorem AgC(b:Br T)(a:Nat):Fv T E (BA T none a) (BA T (some E) a):=YS U (YT U b a) (Gm U none a) (Fi U none a) (Fi U (some E) a)
end
section
variable{T:List Az}{E:Ao}(U:AR T)
include U
theorem AgG{O X:AU}(N:FF T O)(J:Fv T E O X)(I:AM T O)(Y:SM T O)(b:SM T X){s:PS}(V:An T s)(hc:s.code=0)(k:AN T .name s=true)(h:(DE T none O s).2.code=0):
 (DE T (some E) X s).2=after T (A5 E (DE T none O s).1) (DE T none O s).2:=by
 have c:=EZ U V k (by decide);unfold DE at h⊢;by_cases h1:Aj T Bl (Ab s)=true
 ·rw[Ag h1] at h;rw[Ag h1,Ag h1];have a:=AD U c h1 Ai;show(Ba T X (Fb T (some E) s 2 (Ab (Ab s)))).2=after T (A5 E (.proc _ _ (Ba T O (Ab (Ab s))).1)) (Ba T O (Ab (Ab s))).2;rw[Vi,Wg U N I Y a hc h,A5];exact YP U J I Y b (OD _ _ _ _ _) a hc h
 ·rw[Ae h1] at h;rw[Ae h1,Ae h1];by_cases h2:Aj T BL (Ab s)=true
  ·rw[Ag h2] at h;rw[Ag h2,Ag h2];have a:=AD U c h2 Ai;have j:=Kj U I _ a;have d:=Eu Y (Dq U (f:=BK) Ai (JY U Y _ (D0 (T:=T) (show(Ab (Ab s)).code=0 from hc))).1).1 h;obtain⟨e,_,_⟩:=Bs d;have i:=(Ch U (f:=BK) Ai j.1).1;show(X (Am T BK (Cg T X (Cs T (some E) s 1 (Ab (Ab s)))).2)).2=after T (A5 E (.put _ _ (O (Ab (Ab s))).1 (O (Am T BK (Cg T O (Ab (Ab s))).2)).1)) (O (Am T BK (Cg T O (Ab (Ab s))).2)).2;rw[O9,A5,YV U J b (IR _ _ _ _) a hc e,Gv U Ai ((IR _ _ _ _).or (DG E _))];exact J.on b ((IR _ _ _ _).or (DG E _)) i d h
  ·rw[Ae h2] at h;rw[Ae h2,Ae h2];by_cases h3:Aj T BK (Ab s)=true
   ·rw[Ag h3] at h;rw[Ag h3,Ag h3];have a:=AD U c h3 Ai;show(X (FK T (some E) s (Ab (Ab s)))).2=after T (A5 E (.assign _ _ (O (Ab (Ab s))).1)) (O (Ab (Ab s))).2;rw[Aba,A5];exact J.on b (TB _ _ _) a hc h
   ·rw[Ae h3] at h;exfalso;have f:=Eu Y (EL 4 (Ab s)) h;have g:(Ab s).code=0:=hc;simp[AI,g] at f
section
variable{O X:AU}(J:Fv T E O X)(I:AM T O)(Y:SM T O){Z D:PS->St×PS}(A:Lt T E Z D)
include J I Y A
theorem AgB(n:AM T Z)(f:SM T Z)(o:SM T D)
 {s:PS}(V:An T s)(hc:s.code=0)(h:(Dk T O Z s).2.code=0):(Dk T X D s).2=after T (A5 E (Dk T O Z s).1) (Dk T O Z s).2:=by
 have r:=D0 (T:=T) hc;have u:=I s V;have w:=Y s r;have i:=Ch U (f:=Bu) Ai u.1;have j:=Dq U (f:=Bu) Ai w.1;have v:=n _ i.1;have y:=f _ j.1
 have b:(Z (Am T Bu (O s).2)).2.code=0:=by
  unfold Dk at h;split at h
  ·rename_i hz;exact Cp U y.1 Ai hz
  ·exact h
 have e:=Eu f j.1 b;obtain⟨k,_,_⟩:=Bs e;have l:(X s).2=after T (AV E (O s).1) (O s).2:=J s V hc k;have m:Am T Bu (X s).2=after T (AV E (O s).1) (Am T Bu (O s).2):=by rw[l,Gv U Ai (DG E _)]
 have a:(D (Am T Bu (X s).2)).2=after T ((AV E (O s).1).or (A5 E (Z (Am T Bu (O s).2)).1)) (Z (Am T Bu (O s).2)).2:=by rw[m];exact A.on o (DG E _) i.1 e b
 have d:=(DG E (O s).1).or (Nk E (Z (Am T Bu (O s).2)).1);unfold Dk at h⊢;by_cases hz:Aj T E3 (Z (Am T Bu (O s).2)).2=true
 ·rw[Ag hz] at h;rw[Ag hz];have q:=AD U v.1 hz Ai;have p:(Ab (Z (Am T Bu (O s).2)).2).code=0:=b;show _=after T (A5 E (.ite (O s).1 (Z (Am T Bu (O s).2)).1 (Z (Ab (Z (Am T Bu (O s).2)).2)).1)) (Z (Ab (Z (Am T Bu (O s).2)).2)).2;rw[A5];cases g:(AV E (O s).1).or (A5 E (Z (Am T Bu (O s).2)).1) with
  |none=>
   rw[g,G5] at a;have t:Aj T E3 (D (Am T Bu (X s).2)).2=true:=by rw[a];exact hz
   rw[Ag t];show(D (Ab (D (Am T Bu (X s).2)).2)).2=after T (A5 E _) _;rw[a];exact A _ q p h
  |some x=>
   rw[g] at d a;have c: ¬Aj T E3 (D (Am T Bu (X s).2)).2=true:=by rw[a,JV U Ai d];simp
   rw[Ae c];exact a
 ·rw[Ae hz];show _=after T (A5 E (.ite (O s).1 (Z (Am T Bu (O s).2)).1 .nil)) (Z (Am T Bu (O s).2)).2;have c: ¬Aj T E3 (D (Am T Bu (X s).2)).2=true:=by rw[a,JV U Ai d];simp[hz]
  rw[Ae c];show(D (Am T Bu (X s).2)).2=_;rw[a,A5,A5];simp
theorem AgL(e:SM T Z)(d:SM T D)
 {s:PS}(V:An T s)(hc:s.code=0)(h:(F6 T O Z s).2.code=0):(F6 T X D s).2=after T (A5 E (F6 T O Z s).1) (F6 T O Z s).2:=by
 have f:=D0 (T:=T) hc;have g:=I s V;have j:=Y s f;have i:=Ch U (f:=Eh) Ai g.1;have k:=Dq U (f:=Eh) Ai j.1;have b:(Z (Am T Eh (O s).2)).2.code=0:=h;have a:=Eu e k.1 b;obtain⟨c,_,_⟩:=Bs a;show(D (Am T Eh (X s).2)).2=after T (A5 E (.loop (O s).1 (Z (Am T Eh (O s).2)).1)) (Z (Am T Eh (O s).2)).2;rw[J s V hc c,Gv U Ai (DG E _),A5];exact A.on d (DG E _) i.1 a b
end
omit U in
theorem Nc{Z:PS->St×PS}(n:Nat)(l:List St)(s:PS):BQ T Z (n+1) l s=if Aj T AQ (A7 T Z s).2 then BQ T Z n (l++(A7 T Z s).1) (Ab (A7 T Z s).2) else(l++(A7 T Z s).1,(A7 T Z s).2):=by rw[BQ]
omit U in
theorem Y0{Z D:PS->St×PS}(A:Lt T E Z D){s:PS}(V:An T s)(hc:s.code=0)(h:(A7 T Z s).2.code=0):(A7 T D s).2=after T (Bz E (A7 T Z s).1) (A7 T Z s).2:=by
 unfold A7 at h⊢;by_cases hz:(Aj T AQ s||Aj T By s)=true
 ·rw[Ag hz,Ag hz];show s=after T (Bz E []) s;rw[Bz];rfl
 ·rw[Ae hz] at h;rw[Ae hz,Ae hz];show(D s).2=after T (Bz E [(Z s).1]) (Z s).2;rw[Bz,Bz,A s V hc h];simp
theorem YY{Z D:PS->St×PS}(A:Lt T E Z D)(g:AM T Z)(i:SM T Z)(k:SM T D):
 ∀(n:Nat)(l d:List St)(s:PS),An T s->s.code=0->(BQ T Z n l s).2.code=0-> ∃c,Nz c/\Bz E (BQ T Z n l s).1=(Bz E l).or c/\(BQ T D n d s).2=after T c (BQ T Z n l s).2
 |0,l,d,s,V,hc,h=>⟨none,.none,by simp[BQ],rfl⟩
 |n+1,l,d,s,V,hc,h=>by
  rw[Nc] at h;rw[Nc,Nc];have q:=D0 (T:=T) hc;have t:=OB g s V;have u:=OT i s q;by_cases hz:Aj T AQ (A7 T Z s).2=true
  ·rw[Ag hz] at h;have f:=Cp U u.1 Ai hz;have a:=Y0 A V hc f;have p:=AD U t.1 hz Ai;have o:(Ab (A7 T Z s).2).code=0:=f;obtain⟨c,m,h1,h2⟩:=YY A g i k n (l++(A7 T Z s).1) (d++(A7 T D s).1) (Ab (A7 T Z s).2) p o h;rw[Ag hz];have b:=Jj E (A7 T Z s).1;refine⟨(Bz E (A7 T Z s).1).or c,b.or m,?_,?_⟩
   ·rw[h1,Tl,Mt]
   ·cases j:Bz E (A7 T Z s).1 with
    |none=>
     rw[j,G5] at a;have r:Aj T AQ (A7 T D s).2=true:=by rw[a];exact hz
     rw[Ag r,a,h2];rfl
    |some x=>
     rw[j] at b a;have e: ¬Aj T AQ (A7 T D s).2=true:=by rw[a,JV U Ai b];simp
     rw[Ae e];exact a
  ·rw[Ae hz] at h;rw[Ae hz];have a:=Y0 A V hc h;have b:=Jj E (A7 T Z s).1;refine⟨Bz E (A7 T Z s).1,b,?_,?_⟩
   ·show Bz E (l++(A7 T Z s).1)=_;rw[Tl]
   ·have e: ¬Aj T AQ (A7 T D s).2=true:=by rw[a,JV U Ai b];simp[hz]
    rw[Ae e];exact a
theorem YZ{Z D:PS->St×PS}(A:Lt T E Z D)(a:AM T Z)(c:SM T Z)(b:SM T D){s:PS}(V:An T s)(hc:s.code=0)(h:(AK T Z s).2.code=0):
 (AK T D s).2=after T (Bz E (AK T Z s).1) (AK T Z s).2:=by
 obtain⟨d,_,h1,h2⟩:=YY U A a c b T.length [] [] s V hc h;show(BQ T D T.length [] s).2=after T (Bz E (BQ T Z T.length [] s).1) (BQ T Z T.length [] s).2;rw[h1,h2,Bz];rfl
theorem Y4(j:Br T): ∀a,Lt T E (AL T none a) (AL T (some E) a)
 |0=>fun s V hc h=>by exfalso;have:(AI T 5 s).code=0:=h;simp[AI,hc] at this
 |a+1=>fun s V hc h=>by
  have o:=Y4 j a;have p:=Gp U none a;have m:=Ev U none a;have l:=Ev U (some E) a;have f:Fv T E (BA T none a) (BA T (some E) a):=AgC U j a;have k:=Hw U none a;have n:=Hy U none a;have r:=Hy U (some E) a;have d:(Ab s).code=0:=hc;rw[AL] at h;rw[AL,AL];by_cases h1:AN T .name s=true
  ·rw[Ag h1] at h;rw[Ag h1,Ag h1];exact AgG U (U2 U j a) f k n r V hc h1 h
  ·rw[Ae h1] at h;rw[Ae h1,Ae h1];by_cases h2:Aj T IF s=true
   ·rw[Ag h2] at h;rw[Ag h2,Ag h2];exact AgB U f k n o p m l (AD U V h2 Ai) d h
   ·rw[Ae h2] at h;rw[Ae h2,Ae h2];by_cases h3:Aj T IH s=true
    ·rw[Ag h3] at h;rw[Ag h3,Ag h3];exact AgL U f k n o m l (AD U V h3 Ai) d h
    ·rw[Ae h3] at h;rw[Ae h3,Ae h3];by_cases b:Aj T Bc s=true
     ·rw[Ag b] at h;rw[Ag b,Ag b];have t:=AD U V b Ai;obtain⟨q,_,_⟩:=Bs h;show Am T By (AK T (AL T (some E) a) (Ab s)).2=after T (A5 E (.block (AK T (AL T none a) (Ab s)).1)) (Am T By (AK T (AL T none a) (Ab s)).2);rw[YZ U o p m l t d q,Gv U Ai (Jj E _),A5]
     ·rw[Ae b] at h;rw[Ae b,Ae b];by_cases c:Aj T II s=true
      ·rw[Ag c] at h;rw[Ag c,Ag c];show _=after T (A5 E (.write _)) _;rw[A5];exact f _ (AD U V c Ai) d h
      ·rw[Ae c] at h;rw[Ae c,Ae c];by_cases e:Aj T IG s=true
       ·rw[Ag e] at h;rw[Ag e,Ag e];show Ea T (some E) (Ab s)=after T (A5 E (.read _ _)) (Ea T none (Ab s));have i:(Ea T none (Ab s)).code=0:=h;rw[A5];unfold Ea at i⊢;by_cases g:AN T .name (Ab s)=true
        ·rw[Ag g,Ag g,O9,Kn g];rfl
        ·rw[Ae g] at i;exfalso;simp[AI,d] at i
       ·rw[Ae e] at h;exfalso;have:(AI T 4 s).code=0:=h;simp[AI,hc] at this
theorem AgA(a:Br T){s:PS}(V:An T s)(hc:s.code=0)(h:(AK T (AL T none 14) s).2.code=0):
 (AK T (AL T (some E) 14) s).2=after T (Bz E (AK T (AL T none 14) s).1) (AK T (AL T none 14) s).2:=
 YZ U (Y4 U a 14) (Gp U none 14) (Ev U none 14) (Ev U (some E) 14) V hc h
end
