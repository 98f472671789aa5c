/- Plain: a tree is no greater than the tokens it was read from -/
import Derived.Test.YtklobognaldjpaaGreatCOk2
namespace Go.Proofs.YtklobognaldjpaaGreat
open Go.Proofs.Tryz
mutual
def CA:Ex->Nat
 |.nil=>0
 |.num _=>1
 |.var _ _=>1
 |.elem _ _ i=>1+CA i
 |.call _ _ args=>1+Fs args
 |.bin _ l b=>1+CA l+CA b
 |.un _ a=>1+CA a
def Fs:List Ex->Nat
 |[]=>0
 |a::l=>CA a+Fs l
end
mutual
def C3:St->Nat
 |.nil=>0
 |.assign _ _ a=>1+CA a
 |.put _ _ i a=>1+CA i+CA a
 |.proc _ _ args=>1+Fs args
 |.ite c e d=>1+CA c+C3 e+C3 d
 |.loop c b=>1+CA c+C3 b
 |.block l=>1+D1 l
 |.write a=>1+CA a
 |.read _ _=>1
def D1:List St->Nat
 |[]=>0
 |a::l=>C3 a+D1 l
end
def Mc:Gl->Nat
 |.var _ _=>0
 |.arr _ _ _ _=>0
 |.proc a=>1+D1 a.body
 |.func a=>1+D1 a.body
def EF:List Gl->Nat
 |[]=>0
 |a::l=>Mc a+EF l
theorem ZQ(k:List Ex): ∀l:List Ex,Fs (l++k)=Fs l+Fs k
 |[]=>by rw[Hl,Fs];omega
 |a::l=>by rw[IZ,Fs,Fs,ZQ k l];omega
theorem Ub(k:List St): ∀l:List St,D1 (l++k)=D1 l+D1 k
 |[]=>by rw[Hl,D1];omega
 |a::l=>by rw[IZ,D1,D1,Ub k l];omega
theorem O3(k:List Gl): ∀l:List Gl,EF (l++k)=EF l+EF k
 |[]=>by rw[Hl,EF];omega
 |a::l=>by rw[IZ,EF,EF,O3 k l];omega
mutual
theorem If(b:CE): ∀(c:Ex)(p:Nat),(Ak b p c).length<=7*CA c
 |.nil,p=>by rw[Ak,CA];simp
 |.num _,p=>by rw[Ak,CA];simp
 |.var n _,p=>by rw[Ak,CA];unfold CE.get;split<;>simp
 |.elem n _ i,p=>by rw[Ak,CA];have:=If b i p;simp only[AG,Bg,Bm];omega
 |.call n _ args,p=>by rw[Ak,CA];have:=RP b args p;simp only[AG,Bg,Bm];omega
 |.bin op l e,p=>by
  rw[Ak,CA];have f:=If b l p;split
  ·have d:=If b e (p+(Ak b p l).length+2);simp only[AG,Bg,Bm];omega
  ·split
   ·have d:=If b e (p+(Ak b p l).length+6);simp only[AG,Bg,Bm];omega
   ·have d:=If b e (p+(Ak b p l).length);simp only[AG,Bg,Bm];omega
 |.un op c,p=>by rw[Ak,CA];have:=If b c p;simp only[AG,Bg,Bm];omega
theorem RP(b:CE): ∀(l:List Ex)(p:Nat),(CQ b p l).length<=7*Fs l
 |[],p=>by rw[CQ];simp
 |a::l,p=>by rw[CQ,Fs,AG];have f:=If b a p;have d:=RP b l (p+(Ak b p a).length);omega
end
theorem Zn(a:CE)(n:Af):(a.set n).length=2:=by unfold CE.set;split;rfl;split<;>rfl
mutual
theorem Pv(c:CE): ∀(s:St)(p:Nat),(AH c p s).length<=8*C3 s
 |.nil,p=>by rw[AH,C3];simp
 |.assign n _ e,p=>by rw[AH,C3];have:=If c e (p+1);simp only[AG,Bg,Bm,Zn];omega
 |.put n _ i e,p=>by rw[AH,C3];have f:=If c i (p+1);have g:=If c e (p+1+(Ak c (p+1) i).length+3);simp only[AG,Bg,Bm];omega
 |.proc n _ args,p=>by rw[AH,C3];have:=RP c args (p+1);simp only[AG,Bg,Bm];omega
 |.ite d h j,p=>by
  rw[AH,C3];have f:=If c d (p+1);have g:=Pv c h (p+1+(Ak c (p+1) d).length+2);split
  ·simp only[AG,Bg,Bm];omega
  ·have k:=Pv c j (p+1+(Ak c (p+1) d).length+2+(AH c (p+1+(Ak c (p+1) d).length+2) h).length+2);simp only[AG,Bg,Bm];omega
 |.loop d b,p=>by rw[AH,C3];have f:=If c d (p+1);have g:=Pv c b (p+1+(Ak c (p+1) d).length+2);simp only[AG,Bg,Bm];omega
 |.block l,p=>by rw[AH,C3];have:=N9 c l p;omega
 |.write e,p=>by rw[AH,C3];have:=If c e (p+1);simp only[AG,Bg,Bm];omega
 |.read n _,p=>by rw[AH,C3];simp only[AG,Bg,Bm,Zn];omega
theorem N9(c:CE): ∀(l:List St)(p:Nat),(Bt c p l).length<=8*D1 l
 |[],p=>by rw[Bt];simp
 |a::l,p=>by rw[Bt,D1,AG];have f:=Pv c a p;have g:=N9 c l (p+(AH c p a).length);omega
end
theorem Abq(b:CG)(d:Gl):(Dj b d).words.length<=b.words.length+8*Mc d:=by
 cases d with
 |var n p=>unfold Dj;simp only;omega
 |arr n p s a=>unfold Dj;simp only;omega
 |proc c=>
  unfold Dj Mc;have:=N9 (CT false (B9 b.g c.name.1 (b.words.length,0)) c) c.body (b.words.length+2);simp only[AG,Bg,Bm];omega
 |func c=>
  unfold Dj Mc;have:=N9 (CT true (B9 b.g c.name.1 (b.words.length,0)) c) c.body (b.words.length+3);simp only[AG,Bg,Bm];omega
theorem Vf: ∀(l:List Gl)(a:CG),(FX a l).words.length<=a.words.length+8*EF l
 |[],a=>by rw[FX];omega
 |b::l,a=>by rw[FX,EF];have c:=Abq a b;have d:=Vf l (Dj a b);omega
theorem Abr(p:Pr):(BI p).1.length<=8*(EF p.globals+D1 p.body)+1:=by unfold BI;have b:=Vf p.globals Ig;have c:=N9 (Fc (FX Ig p.globals)) p.body (FX Ig p.globals).words.length;have a:Ig.words.length=0:=rfl;simp only[AG,Bg,Bm];omega
def SX(T:List Az)(a:AU):Prop:= ∀s,An T s->CA (a s).1+s.next<=(a s).2.next
def SS(T:List Az)(a:PS->St×PS):Prop:= ∀s,An T s->C3 (a s).1+s.next<=(a s).2.next
section
variable{T:List Az}(O:AR T)
include O
theorem ZU{V:AU}(Y:SX T V)(X:AM T V){a:List Af}(d: ∀e∈a,e.toList≠[]): ∀(n:Nat)(l:Ex)(s:PS),An T s->CA (Bi T V a n l s).1+s.next<=CA l+(Bi T V a n l s).2.next
 |0,l,s,U=>by rw[Bi];exact AA _
 |n+1,l,s,U=>by
  rw[Bi];by_cases b:CL T a s=true
  ·rw[Ag b];have c:=JB O d U b;have h:=Y _ c;have f:=ZU Y X d n (.bin (Ad T s).text l (V (Ab s)).1) (V (Ab s)).2 (X _ c).1;rw[CA] at f;have g:(Ab s).next=s.next+1:=rfl
   omega
  ·rw[Ae b];exact AA _
section
variable{V:AU}(Y:SX T V)(X:AM T V)
include Y X
theorem QV{a:List Af}(c: ∀b∈a,b.toList≠[]):SX T (BU T V a):=fun s U=>by
 have d:=Y s U;have e:=ZU O Y X c T.length (V s).1 (V s).2 (X s U).1;show CA (Bi T V a T.length (V s).1 (V s).2).1+s.next<=(Bi T V a T.length (V s).1 (V s).2).2.next
 omega
theorem AiF:SX T (DM T V):=fun s U=>by
 unfold DM;by_cases a:CL T C5 (V s).2=true
 ·rw[Ag a];have b:=JB O BG.2.2.1 (X s U).1 a;have d:=Y s U;have e:=Y _ b;have c:(Ab (V s).2).next=(V s).2.next+1:=rfl
  show CA (.bin _ _ _)+s.next<=(V (Ab (V s).2)).2.next
  rw[CA];omega
 ·rw[Ae a];exact Y s U
theorem ZV:SX T (EA T V):=by have a:SX T (Jr T V):=QV O Y X BG.1;have b:SX T (Fq T V):=QV O a (Kl O X) BG.2.1;have c:SX T (Hi T V):=AiF O b (Kk O X);have d:SX T (I5 T V):=QV O c (Km O X) BG.2.2.2.1;exact QV O d (Ki O X) BG.2.2.2.2
end
theorem ZR{V:AU}(Y:SX T V)(X:AM T V): ∀(n:Nat)(l:List Ex)(s:PS),An T s->Fs (Bj T V n l s).1+s.next<=Fs l+(Bj T V n l s).2.next
 |0,l,s,U=>by rw[Bj];exact AA _
 |n+1,l,s,U=>by
  rw[Bj];by_cases a:Aj T Bx s=true
  ·rw[Ag a];have b:=AD O U a Ai;have e:=Y _ b;have c:=ZR Y X n (l++[(V (Ab s)).1]) (V (Ab s)).2 (X _ b).1;rw[ZQ,Fs,Fs] at c;have d:(Ab s).next=s.next+1:=rfl
   omega
  ·rw[Ae a];exact AA _
section
variable{V:AU}(Y:SX T V)(X:AM T V)
include Y X
theorem ZS{s:PS}(U:An T s):Fs (Ba T V s).1+s.next<=(Ba T V s).2.next:=by
 unfold Ba;by_cases a:Aj T AJ s=true
 ·rw[Ag a];show Fs []+s.next<=s.next+1;rw[Fs];omega
 ·rw[Ae a];have c:=Y s U;have b:=ZR O Y X T.length [(V s).1] (V s).2 (X s U).1;have d:=Ch O (f:=AJ) Ai (Qi O X T.length [(V s).1] (V s).2 (X s U).1).1;rw[Fs,Fs] at b;show Fs (Bj T V T.length [(V s).1] (V s).2).1+s.next<=(Am T AJ (Bj T V T.length [(V s).1] (V s).2).2).next
  omega
theorem ZX:SX T (Cg T V):=fun s U=>by
 have a:=Y s U;have b:=Ch O (f:=Cn) Ai (X s U).1;show CA (V s).1+s.next<=(Am T Cn (V s).2).next
 omega
theorem AiC{s:PS}(U:An T s)(I:AN T .name s=true):CA (FQ T V s).1+s.next<=(FQ T V s).2.next:=by
 have d:(Ap T s).2=Ab s:=by unfold Ap;rw[Ag I]
 have c:=EZ O U I (by decide);have e:(Ab s).next=s.next+1:=rfl
 have f:(Ab (Ab s)).next=s.next+2:=rfl
 unfold FQ;rw[d];by_cases a:Aj T Bl (Ab s)=true
 ·rw[Ag a];have:=ZS O Y X (AD O c a Ai);show CA (.call _ _ _)+s.next<=(Ba T V (Ab (Ab s))).2.next
  rw[CA];omega
 ·rw[Ae a];by_cases b:Aj T BL (Ab s)=true
  ·rw[Ag b];have:=ZX O Y X _ (AD O c b Ai);show CA (.elem _ _ _)+s.next<=(Cg T V (Ab (Ab s))).2.next
   rw[CA];omega
  ·rw[Ae b];show CA (.var _ _)+s.next<=(Ab s).next
   rw[CA];omega
end
theorem ZW: ∀k,SX T (Da T k)
 |0=>fun s U=>by rw[Da];have:=FO 5 U;show CA .nil+s.next<=(AI T 5 s).next;rw[CA];omega
 |k+1=>fun s U=>by
  have h:=ZW k;have X:=Nf O k;have i:=ZV O h X;have l:(Ab s).next=s.next+1:=rfl
  rw[Da];by_cases c:AN T .number s=true
  ·rw[Ag c];unfold BV;rw[Ag c];show CA (.num _)+s.next<=(Ab s).next;rw[CA];omega
  ·rw[Ae c];by_cases d:AN T .name s=true
   ·rw[Ag d];exact AiC O i (IK O X) U d
   ·rw[Ae d];by_cases e:Aj T Bl s=true
    ·rw[Ag e];have j:=AD O U e Ai;have a:=i _ j;have b:=Ch O (f:=AJ) Ai (IK O X _ j).1;show CA (EA T (Da T k) (Ab s)).1+s.next<=(Am T AJ (EA T (Da T k) (Ab s)).2).next
     omega
    ·rw[Ae e];by_cases f:Aj T FA s=true
     ·rw[Ag f];have:=h _ (AD O U f Ai);show CA (.un _ _)+s.next<=(Da T k (Ab s)).2.next
      rw[CA];omega
     ·rw[Ae f];by_cases g:Aj T GP s=true
      ·rw[Ag g];have:=h _ (AD O U g Ai);show CA (.un _ _)+s.next<=(Da T k (Ab s)).2.next
       rw[CA];omega
      ·rw[Ae g];have:=FO 4 U;show CA .nil+s.next<=(AI T 4 s).next;rw[CA];omega
theorem Aiz(k:Nat):SX T (EQ T k):=ZV O (ZW O k) (Nf O k)
theorem AiD{c:AU}(Y:SX T c)(X:AM T c){s:PS}(U:An T s)(I:AN T .name s=true):C3 (FR T c s).1+s.next<=(FR T c s).2.next:=by
 have i:(Ap T s).2=Ab s:=by unfold Ap;rw[Ag I]
 have f:=EZ O U I (by decide);have j:(Ab s).next=s.next+1:=rfl
 have k:(Ab (Ab s)).next=s.next+2:=rfl
 unfold FR;rw[i];by_cases d:Aj T Bl (Ab s)=true
 ·rw[Ag d];have:=ZS O Y X (AD O f d Ai);show C3 (.proc _ _ _)+s.next<=(Ba T c (Ab (Ab s))).2.next
  rw[C3];omega
 ·rw[Ae d];by_cases e:Aj T BL (Ab s)=true
  ·rw[Ag e];have g:=AD O f e Ai;have a:=ZX O Y X _ g;have b:=Ch O (f:=BK) Ai (Kj O X _ g).1;have h:=Y _ b.1;show C3 (.put _ _ _ _)+s.next<=(c (Am T BK (Cg T c (Ab (Ab s))).2)).2.next
   rw[C3];omega
  ·rw[Ae e];have b:=Ch O (f:=BK) Ai f;have h:=Y _ b.1;show C3 (.assign _ _ _)+s.next<=(c (Am T BK (Ab s))).2.next
   rw[C3];omega
omit O in
theorem AiB{st:PS->St×PS}(Y:SS T st){s:PS}(U:An T s):D1 (A7 T st s).1+s.next<=(A7 T st s).2.next:=by
 unfold A7;split
 ·show D1 []+s.next<=s.next;rw[D1];omega
 ·have:=Y s U;show D1 [_]+s.next<=(st s).2.next
  rw[D1,D1];omega
theorem Z0{st:PS->St×PS}(Y:SS T st)(X:AM T st): ∀(n:Nat)(l:List St)(s:PS),An T s->D1 (BQ T st n l s).1+s.next<=D1 l+(BQ T st n l s).2.next
 |0,l,s,U=>by rw[BQ];exact AA _
 |n+1,l,s,U=>by
  have e:=AiB Y U;have c:=OB X s U;rw[BQ];by_cases a:Aj T AQ (A7 T st s).2=true
  ·rw[Ag a];have b:=Z0 Y X n (l++(A7 T st s).1) _ (AD O c.1 a Ai);rw[Ub] at b;have d:(Ab (A7 T st s).2).next=(A7 T st s).2.next+1:=rfl
   omega
  ·rw[Ae a];show D1 (l++(A7 T st s).1)+s.next<=D1 l+(A7 T st s).2.next
   rw[Ub];omega
theorem Z1{st:PS->St×PS}(Y:SS T st)(X:AM T st){s:PS}(U:An T s):D1 (AK T st s).1+s.next<=(AK T st s).2.next:=by
 have:=Z0 O Y X T.length [] s U;rw[D1] at this;show D1 (BQ T st T.length [] s).1+s.next<=(BQ T st T.length [] s).2.next
 omega
theorem Z3: ∀k,SS T (CV T k)
 |0=>fun s U=>by rw[CV];have:=FO 5 U;show C3 .nil+s.next<=(AI T 5 s).next;rw[C3];omega
 |k+1=>fun s U=>by
  have d:=Z3 k;have m:=K7 O k;have Y:=Aiz O k;have X:=Tv O k;have p:(Ab s).next=s.next+1:=rfl
  rw[CV];by_cases f:AN T .name s=true
  ·rw[Ag f];exact AiD O Y X U f
  ·rw[Ae f];by_cases g:Aj T IF s=true
   ·rw[Ag g];have c:=AD O U g Ai;have a:=Y _ c;have e:=Ch O (f:=Bu) Ai (X _ c).1;have b:=d _ e.1;unfold Dk;by_cases n:Aj T E3 (CV T k (Am T Bu (EQ T k (Ab s)).2)).2=true
    ·rw[Ag n];have o:=d _ (AD O (m _ e.1).1 n Ai);have q:(Ab (CV T k (Am T Bu (EQ T k (Ab s)).2)).2).next=(CV T k (Am T Bu (EQ T k (Ab s)).2)).2.next+1:=rfl
     show C3 (.ite _ _ _)+s.next<=(CV T k (Ab (CV T k (Am T Bu (EQ T k (Ab s)).2)).2)).2.next
     rw[C3];omega
    ·rw[Ae n];show C3 (.ite _ _ .nil)+s.next<=(CV T k (Am T Bu (EQ T k (Ab s)).2)).2.next
     rw[C3,C3];omega
   ·rw[Ae g];by_cases h:Aj T IH s=true
    ·rw[Ag h];have c:=AD O U h Ai;have a:=Y _ c;have e:=Ch O (f:=Eh) Ai (X _ c).1;have b:=d _ e.1;show C3 (.loop _ _)+s.next<=(CV T k (Am T Eh (EQ T k (Ab s)).2)).2.next
     rw[C3];omega
    ·rw[Ae h];by_cases i:Aj T Bc s=true
     ·rw[Ag i];have c:=AD O U i Ai;have a:=Z1 O d m c;have b:=Ch O (f:=By) Ai (JQ O m _ c).1;show C3 (.block _)+s.next<=(Am T By (AK T (CV T k) (Ab s)).2).next
      rw[C3];omega
     ·rw[Ae i];by_cases j:Aj T II s=true
      ·rw[Ag j];have a:=Y _ (AD O U j Ai);show C3 (.write _)+s.next<=(EQ T k (Ab s)).2.next
       rw[C3];omega
      ·rw[Ae j];by_cases l:Aj T IG s=true
       ·rw[Ag l];have a:=Gn O _ (AD O U l Ai);show C3 (.read _ _)+s.next<=(Ap T (Ab s)).2.next
        rw[C3];omega
       ·rw[Ae l];have:=FO 4 U;show C3 .nil+s.next<=(AI T 4 s).next;rw[C3];omega
theorem ZT{s:PS}(U:An T s):D1 (BT T s).1+s.next<=(BT T s).2.next:=by
 have c:=Ch O (f:=Bc) Ai U;have a:=Z1 O (Z3 O 14) (K7 O 14) c.1;have b:=Ch O (f:=By) Ai (JQ O (K7 O 14) _ c.1).1;show D1 (AK T (CV T 14) (Am T Bc s)).1+s.next<=(Am T By (AK T (CV T 14) (Am T Bc s)).2).next
 omega
omit O in
theorem ZY(s:PS):Mc (AE T s).1=0:=by unfold AE;split<;>rfl
omit O in
theorem ZZ: ∀(n:Nat)(l:List Gl)(s:PS),EF (Bw T n l s).1=EF l
 |0,l,s=>by rw[Bw]
 |n+1,l,s=>by
  rw[Bw];split
  ·rw[ZZ n,O3,EF,EF,ZY];omega
  ·rfl
omit O in
theorem AiA(s:PS):EF (BP T s).1=0:=by show EF (Bw T T.length [(AE T s).1] (AE T s).2).1=0;rw[ZZ,EF,EF,ZY]
theorem Z2{s:PS}(U:An T s):D1 (AZ T s).1.body+s.next<=(AZ T s).2.next:=by
 have c:=Ty O s U;have a:=ZT O c.1;have b:=Ch O (f:=AQ) Ai (OA O _ c.1).1;show D1 (BT T (Cx T s).2).1+s.next<=(Am T AQ (BT T (Cx T s).2).2).next
 omega
theorem QW: ∀(n:Nat)(l:List Gl)(s:PS),An T s->EF (BC T n l s).1+s.next<=EF l+(BC T n l s).2.next
 |0,l,s,U=>by rw[BC];exact AA _
 |n+1,l,s,U=>by
  have g:(Ab s).next=s.next+1:=rfl
  rw[BC];by_cases d:Aj T CJ s=true
  ·rw[Ag d];have b:=AD O U d Ai;have m:=Qm O _ b;have c:=QW n (l++(BP T (Ab s)).1) _ m.1;rw[O3,AiA] at c;omega
  ·rw[Ae d];by_cases e:Aj T F0 s=true
   ·rw[Ag e];have b:=AD O U e Ai;have m:=K6 O _ b;have a:=Z2 O b;have c:=QW n (l++[.proc (AZ T (Ab s)).1]) _ m.1;rw[O3,EF,EF,Mc] at c;omega
   ·rw[Ae e];by_cases f:Aj T GO s=true
    ·rw[Ag f];have b:=AD O U f Ai;have m:=K6 O _ b;have a:=Z2 O b;have c:=QW n (l++[.func (AZ T (Ab s)).1]) _ m.1;rw[O3,EF,EF,Mc] at c;omega
    ·rw[Ae f];exact AA _
theorem AiE{s:PS}(U:An T s):(BI (Bd T s).1).1.length<=8*T.length+1:=by
 have m:=XW O s U;have a:=QW O T.length [] s U;have b:=ZT O m.1;have c:=(OA O _ m.1).1;have d:=Abr (Bd T s).1;rw[EF] at a;have g:EF (BJ T s).1+s.next<=0+(BJ T s).2.next:=a
 unfold An at c;have e:(Bd T s).1.globals=(BJ T s).1:=rfl;have f:(Bd T s).1.body=(BT T (BJ T s).2).1:=rfl;rw[e,f] at d;omega
end
def C6(W:List Nat)(p:Nat)(c:List Nat):Prop:= ∀a b,c[a]? =some b->W[p+a]? =some b
section
variable{W:List Nat}{p:Nat}{a b:List Nat}(h:C6 W p (a++b))
include h
theorem C6.left:C6 W p a:=fun c e b=>by have d:c<a.length:=(BH.1 b).1;exact h c e (by rw[CR d];exact b)
theorem C6.right:C6 W (p+a.length) b:=fun d e c=>by have:=h (a.length+d) e (by rw[CS (by omega),Jy];exact c);rw[<-this];congr 1;omega
end
theorem C6.one{W:List Nat}{p a:Nat}(h:C6 W p [a]):W[p]? =some a:=h 0 a rfl
theorem C6.two{W:List Nat}{p a b:Nat}(h:C6 W p [a,b]):W[p]? =some a/\W[p+1]? =some b:=⟨h 0 a rfl,h 1 b rfl⟩
theorem C6.three{W:List Nat}{p a b c:Nat}(h:C6 W p [a,b,c]):W[p]? =some a/\W[p+1]? =some b/\W[p+2]? =some c:=⟨h 0 a rfl,h 1 b rfl,h 2 c rfl⟩
def Sd(a:Nat):Nat:=if a=0 then 8 else a
def BB(W:List Nat)(B:Nat)(m:MS)(b:RS)(d:MS->Prop):Prop:=
 (b.stop=none-> ∃a,Cc W B m a/\d a)/\(∀c,b.stop=some c-> ∃a,Cc W B m a/\a.over=some (Sd c)/\a.out=b.out/\a.used=b.used)
structure DC where
 S:List Int
 extra:List Int
 calls:List (Nat×Nat)
def Fh(l:List RC):List A8:=l.map fun a=>(a.name,a.vals.length)
def G7(l:List RC):List Int:=l.flatMap (·.vals)
def D8(N:List A8)(k:Nat):Nat:=((N.take k).map (·.2)).sum
section
variable(W:List Nat)(B:Nat)(N:List A8)(J:List Af)
structure B7(C:DC)(s:RS)(m:MS)(p:Nat)(D:List Int):Prop where
 pc:m.pc=p
 stack:m.stack=C.S++(s.here.map (·.2)++C.extra)++D
 base:m.base=C.S.length
 calls:m.calls=C.calls
 places:m.places=G7 s.glob
 input:m.input=s.input
 out:m.out=s.out
 used:m.used=s.used
 over:m.over=none
 stop:s.stop=none
 lid:s.used<=B
 outs:s.out.length<=60
 shape:Fh s.glob=N
 names:s.here.map (·.1)=J
 lim:D.length<=p
 deep:C.S.length+(J.length+C.extra.length)<=(C.calls.length+1)*10000
end
section
variable{W:List Nat}{B:Nat}{N:List A8}{J:List Af}
theorem BB.now{m:MS}{d:RS}{b:MS->Prop}(g:d.stop=none)(a:MS)(f:Cc W B m a)(e:b a):BB W B m d b:=
 ⟨fun _=>⟨a,f,e⟩,fun h c=>by rw[g] at c;cases c⟩
theorem BB.dies{m:MS}{b:RS}{f:MS->Prop}{c:Nat}(e:b.stop=some c)(a:MS)(k:Cc W B m a)(j:a.over=some (Sd c))(g:a.out=b.out)(i:a.used=b.used):BB W B m b f:=
 ⟨(fun h=>by rw[e] at h;cases h),fun l d=>by rw[e] at d;cases d;exact⟨a,k,j,g,i⟩⟩
theorem BB.stopped{m:MS}{a:RS}{c Q':MS->Prop}(h:BB W B m a c)(b:a.stop.isSome=true):BB W B m a Q':=
 ⟨(fun d=>by rw[d] at b;cases b),h.2⟩
theorem BB.bind{m:MS}{b l:RS}{f g:MS->Prop}(h:BB W B m b f)(k: ¬b.stop.isSome=true)(I: ∀a,f a->BB W B a l g):BB W B m l g:=by
 have J:b.stop=none:=by cases c:b.stop with
  |none=>rfl
  |some i=>rw[c] at k;exact absurd rfl k
 obtain⟨a,j,q⟩:=h.1 J;obtain⟨n,o⟩:=I a q;refine⟨fun c=> ?_,fun i p=> ?_⟩
 ·obtain⟨e,d,r⟩:=n c;exact⟨e,j.trans d,r⟩
 ·obtain⟨e,d,s⟩:=o i p;exact⟨e,j.trans d,s⟩
theorem BB.mono{m:MS}{c:RS}{b Q':MS->Prop}(h:BB W B m c b)(f: ∀a,b a->Q' a):BB W B m c Q':=
 ⟨fun d=>by obtain⟨a,g,e⟩:=h.1 d;exact⟨a,g,f a e⟩,h.2⟩
theorem BB.after{m f:MS}{g:RS}{d:MS->Prop}(e:Cc W B m f)(h:BB W B f g d):BB W B m g d:=
 ⟨fun j=>by obtain⟨c,b,a⟩:=h.1 j;exact⟨c,e.trans b,a⟩,fun i k=>by obtain⟨c,b,a⟩:=h.2 i k;exact⟨c,e.trans b,a⟩⟩
theorem Td(a:List Int)(b:Int):(a++[b]).getLast?=some b:=by simp
theorem Sa(a:List Int)(b:Int):(a++[b]).dropLast=a:=by simp
section
variable{C:DC}{s:RS}{m:MS}{p:Nat}{D:List Int}
theorem Lg{a:Int}(h:B7 B N J C s m p (D++[a])):m.stack.getLast?=some a/\m.stack.dropLast=C.S++(s.here.map (·.2)++C.extra)++D:=by rw[h.stack,<-DO];exact⟨Td _ _,Sa _ _⟩
theorem B7.small(h:B7 B N J C s m p D):m.stack.length<=m.pc+(m.calls.length+1)*10000:=by
 have a:=h.lim;have b:=h.deep;have c:s.here.length=J.length:=by rw[<-h.names,BF]
 rw[h.pc,h.calls,h.stack];simp only[AG,BF];omega
end
theorem B7.goes{C:DC}{s:RS}{m:MS}{p p':Nat}{D ops':List Int}(h:B7 B N J C s m p D)
 (a:ops'.length=0\/ops'.length+p<=p'+D.length:=by first|exact Or.inl rfl|exact Or.inr (by simp only[AG,Bg,Bm];omega)):
 B7 B N J C s {m with pc:=p',stack:=C.S++(s.here.map (·.2)++C.extra)++ops'} p' ops':=
 ⟨rfl,rfl,h.base,h.calls,h.places,h.input,h.out,h.used,h.over,h.stop,h.lid,h.outs,h.shape,h.names,by have:=h.lim;omega,h.deep⟩
def TI(b:CE)(N:List A8)(J:List Af)(n:Af):Prop:=
 (∃i,J.findIdx? (fun a=>AS a n)=some i/\b.l n=some i)\/
 (J.findIdx? (fun a=>AS a n)=none/\b.l n=none/\ ∃k,N.findIdx? (fun a=>AS a.1 n)=some k/\(N.getD k default).2=1/\(b.g n).1=D8 N k)
def TF(a:CE)(N:List A8)(n:Af):Prop:= ∃k,N.findIdx? (fun b=>AS b.1 n)=some k/\a.g n=(D8 N k,(N.getD k default).2)
mutual
def EE(a:CE)(N:List A8)(J:List Af)(b:Bool->Af->Nat->Prop):Ex->Prop
 |.nil=>False
 |.num e=>e<=2147483647
 |.var n _=>TI a N J n
 |.elem n _ i=>TF a N n/\EE a N J b i
 |.call n _ args=>b true n args.length/\La a N J b args
 |.bin _ l d=>EE a N J b l/\EE a N J b d
 |.un _ c=>EE a N J b c
def La(a:CE)(N:List A8)(J:List Af)(b:Bool->Af->Nat->Prop):List Ex->Prop
 |[]=>True
 |c::d=>EE a N J b c/\La a N J b d
end
theorem Sp{c d:Type}(b:c->d)(p:d->Bool): ∀l:List c,(l.map b).findIdx? p=l.findIdx? (fun e=>p (b e))
 |[]=>rfl
 |a::l=>by simp[Uy,Sp b p l]
theorem PX(l:List (Af×Int))(n:Af):JK l n=(l.map (·.1)).findIdx? (fun a=>AS a n):=by unfold JK;rw[Sp]
theorem Ok(l:List RC)(n:Af):JH l n=(Fh l).findIdx? (fun a=>AS a.1 n):=by unfold JH Fh;rw[Sp]
theorem Oi(l:List RC)(k:Nat):(G7 (l.take k)).length=D8 (Fh l) k:=by unfold G7 D8 Fh;rw[List.length_flatMap,<-UC,Mn];rfl
theorem JF{a:Type}{p:a->Bool}{l:List a}{k:Nat}(h:l.findIdx? p=some k):k<l.length:=by rw[Rm] at h;obtain⟨b,_⟩:=h;exact b
theorem Sr(l:List RC){k:Nat}(I:k<l.length):G7 l=G7 (l.take k)++((l.getD k default).vals++G7 (l.drop (k+1))):=by
 have a:l=l.take k++l[k]::l.drop (k+1):=by rw[<-NN I,Rv]
 have b:l.getD k default=l[k]:=by simp[List.getD,I]
 rw[b]
 conv=>lhs;rw[a]
 unfold G7;rw[Ph,Rn]
theorem ON(l:List RC)(k:Nat)(I:k<l.length):((Fh l).getD k default).2=(l.getD k default).vals.length:=by simp[Fh,List.getD,I]
section
variable(l:List RC){k i:Nat}(I:k<l.length)(A:i<(l.getD k default).vals.length)
include l I A
theorem PM:(G7 l)[D8 (Fh l) k+i]? =some ((l.getD k default).vals.getD i 0):=by rw[Sr l I,CS (by rw[Oi];omega),Oi,Jy,CR A];generalize(l.getD k default).vals=a at*;rw[Dg,Bb A];rfl
theorem V6(a:Int):
 G7 (l.set k ⟨(l.getD k default).name,(l.getD k default).vals.set i a⟩)=(G7 l).set (D8 (Fh l) k+i) a/\Fh (l.set k ⟨(l.getD k default).name,(l.getD k default).vals.set i a⟩)=Fh l:=by
 constructor
 ·have b:=Sr (l.set k ⟨(l.getD k default).name,(l.getD k default).vals.set i a⟩) (k:=k) (by simpa using I);have d:(l.set k ⟨(l.getD k default).name,(l.getD k default).vals.set i a⟩).getD k default=⟨(l.getD k default).name,(l.getD k default).vals.set i a⟩:=by simp[List.getD,I]
  rw[d] at b;rw[b,Sr l I];have e:(l.set k ⟨(l.getD k default).name,(l.getD k default).vals.set i a⟩).take k=l.take k:=by rw[List.take_set_of_le (AA _)]
  have f:(l.set k ⟨(l.getD k default).name,(l.getD k default).vals.set i a⟩).drop (k+1)=l.drop (k+1):=by rw[List.drop_set_of_lt (by omega)]
  rw[e,f,Pj _ _ (by rw[Oi];omega),Oi,Jy,List.set_append_left _ _ A]
 ·unfold Fh;rw[J5];apply List.ext_getElem
  ·simp
  ·intro g b h;by_cases c:k=g
   ·subst c;simp[List.getD,I]
   ·simp[c]
end
theorem AdA(op:Af)(a b:Int):K0 (Ij op) a b=GH op a b:=by
 unfold Ij GH;by_cases h:BE op [43]=true
 ·rw[Ag h,Ag h];rfl
 rw[Ae h,Ae h];clear h;by_cases h:BE op [45]=true
 ·rw[Ag h,Ag h];rfl
 rw[Ae h,Ae h];clear h;by_cases h:BE op [42]=true
 ·rw[Ag h,Ag h];rfl
 rw[Ae h,Ae h];clear h;by_cases h:BE op [47]=true
 ·rw[Ag h,Ag h];rfl
 rw[Ae h,Ae h];clear h;by_cases h:BE op [37]=true
 ·rw[Ag h,Ag h];rfl
 rw[Ae h,Ae h];clear h;by_cases h:BE op [61]=true
 ·rw[Ag h,Ag h];rfl
 rw[Ae h,Ae h];clear h;by_cases h:BE op [35]=true
 ·rw[Ag h,Ag h];rfl
 rw[Ae h,Ae h];clear h;by_cases h:BE op [60]=true
 ·rw[Ag h,Ag h];rfl
 rw[Ae h,Ae h];clear h;rfl
theorem YA(op:Af):10<=Ij op/\Ij op<=18:=by
 unfold Ij
 repeat' split
 all_goals decide
end
mutual
def B0:Ex->Prop
 |.nil=>False
 |.num c=>c<=2147483647
 |.var n _=>DH n
 |.elem n _ i=>DH n/\B0 i
 |.call n _ args=>DH n/\args.length<=602/\E9 args
 |.bin _ l b=>B0 l/\B0 b
 |.un _ a=>B0 a
def E9:List Ex->Prop
 |[]=>True
 |a::l=>B0 a/\E9 l
end
mutual
def BS:St->Prop
 |.nil=>False
 |.assign n _ a=>DH n/\B0 a
 |.put n _ i a=>DH n/\B0 i/\B0 a
 |.proc n _ args=>DH n/\args.length<=602/\E9 args
 |.ite c e d=>B0 c/\BS e/\(d.isNil=true\/BS d)
 |.loop c b=>B0 c/\BS b
 |.block l=>l.length<=602/\DI l
 |.write a=>B0 a
 |.read n _=>DH n
def DI:List St->Prop
 |[]=>True
 |a::l=>BS a/\DI l
end
structure MA(r:Ro):Prop where
 name:DH r.name.1
 params:GA r.params
 locals:GA r.locals
 body:r.body.length<=602/\DI r.body
def AaY:Gl->Prop
 |.var n _=>DH n
 |.arr n _ _ _=>DH n
 |.proc a=>MA a
 |.func a=>MA a
theorem Aaj{b:Ex}(c:B0 b): ∀{l:List Ex},E9 l->E9 (l++[b])
 |[],_=>by simp only[Hl,E9];exact⟨c,trivial⟩
 |a::l,h=>by rw[E9] at h;show E9 (a::(l++[b]));rw[E9];exact⟨h.1,Aaj c h.2⟩
theorem Uk{k:List St}(I:DI k): ∀{l:List St},DI l->DI (l++k)
 |[],_=>I
 |a::l,h=>by rw[DI] at h;show DI (a::(l++k));rw[DI];exact⟨h.1,Uk I h.2⟩
def NW(T:List Az):Prop:=NT T/\ ∀a∈T,a.kind=.number->a.val<=2147483647
def WX(T:List Az)(a:AU):Prop:= ∀s,An T s->Av T s->(a s).2.code=0->B0 (a s).1
def WS(T:List Az)(a:PS->St×PS):Prop:= ∀s,An T s->Av T s->(a s).2.code=0->BS (a s).1
section
variable{T:List Az}
theorem Q8(K:NW T){s:PS}(U:An T s)(I:AN T .name s=true):DH (Ad T s).text:=K.1.2 _ (PC U) (by simpa[AN] using I)
theorem Pb(K:NW T){s:PS}(U:An T s)(h:(Ap T s).2.code=0):DH (Ap T s).1.1:=by obtain⟨_,I,a⟩:=Ko h;rw[a];exact Q8 K U I
variable(O:AR T)
include O
theorem Aaq{V:AU}(Y:WX T V)(X:AM T V)(Z:SM T V){a:List Af}(c: ∀j∈a,j.toList≠[]): ∀(n:Nat)(l:Ex)(s:PS),B0 l->An T s->Av T s->(Bi T V a n l s).2.code=0->B0 (Bi T V a n l s).1
 |0,l,s,b,U,g,h=>b
 |n+1,l,s,b,U,g,h=>by
  rw[Bi] at h⊢;by_cases d:CL T a s=true
  ·rw[Ag d] at h⊢;have k:=GK O g c d;have i:Av T (Ab s):=A4 k;have f:=JB O c U d;have e:=Z _ i;refine Aaq Y X Z c n _ _ ?_ (X _ f).1 e.1 h;rw[B0];exact⟨b,Y _ f i (JC O Z c e.1 h)⟩
  ·rw[Ae d];exact b
section
variable{V:AU}(Y:WX T V)(X:AM T V)(Z:SM T V)
include Y X Z
theorem Q7{a:List Af}(d: ∀f∈a,f.toList≠[]):WX T (BU T V a):=fun s U e h=>by have c:=Z s e;have b:(Bi T V a T.length (V s).1 (V s).2).2.code=0:=h;exact Aaq O Y X Z d _ _ _ (Y s U e (JC O Z d c.1 b)) (X s U).1 c.1 b
theorem Ajo:WX T (DM T V):=fun s U b h=>by
 unfold DM at h⊢;by_cases a:CL T C5 (V s).2=true
 ·rw[Ag a] at h⊢;have d:=Z s b;have c:=GK O d.1 BG.2.2.1 a;have e:=JB O BG.2.2.1 (X s U).1 a;show B0 (.bin _ _ _);rw[B0];exact⟨Y s U b c,Y _ e (A4 c) h⟩
 ·rw[Ae a] at h⊢;exact Y s U b h
theorem Aar:WX T (EA T V):=by have a:WX T (Jr T V):=Q7 O Y X Z BG.1;have b:WX T (Fq T V):=Q7 O a (Kl O X) (Kw O Z) BG.2.1;have c:WX T (Hi T V):=Ajo O b (Kk O X) (Lj O Z);have d:WX T (I5 T V):=Q7 O c (Km O X) (Kx O Z) BG.2.2.2.1;exact Q7 O d (Ki O X) (Ku O Z) BG.2.2.2.2
end
theorem Aan{V:AU}(Y:WX T V)(X:AM T V)(Z:SM T V): ∀(n:Nat)(l:List Ex)(s:PS),E9 l->An T s->Av T s->(Bj T V n l s).2.code=0->E9 (Bj T V n l s).1
 |0,l,s,a,U,e,h=>a
 |n+1,l,s,a,U,e,h=>by
  rw[Bj] at h⊢;by_cases b:Aj T Bx s=true
  ·rw[Ag b] at h⊢;have g:=Cp O e Ai b;have f:Av T (Ab s):=A4 g;have d:=AD O U b Ai;have c:=Z _ f;exact Aan Y X Z n _ _ (Aaj (Y _ d f (Iy O Z c.1 h)) a) (X _ d).1 c.1 h
  ·rw[Ae b];exact a
omit O in
theorem Aai(V:AU): ∀(n:Nat)(l:List Ex)(s:PS),(Bj T V n l s).1.length<=l.length+n
 |0,l,s=>AA _
 |n+1,l,s=>by
  rw[Bj];split
  ·have:=Aai V n (l++[(V (Ab s)).1]) (V (Ab s)).2;rw[AG] at this;simp only[Bg,Bm] at this;omega
  ·show l.length<=_;omega
section
variable(K:NW T){V:AU}(Y:WX T V)(X:AM T V)(Z:SM T V){s:PS}(U:An T s)
include K Y X Z U
theorem Aao(c:Av T s)(h:(Ba T V s).2.code=0):(Ba T V s).1.length<=602/\E9 (Ba T V s).1:=by
 unfold Ba at h⊢;by_cases d:Aj T AJ s=true
 ·rw[Ag d];show _/\E9 [];rw[E9];exact⟨by simp,trivial⟩
 ·rw[Ae d] at h⊢;have b:=Z s c;have e:(Am T AJ (Bj T V T.length [(V s).1] (V s).2).2).code=0:=h;have a:=(Bs e).1;refine⟨?_,Aan O Y X Z _ _ _ ?_ (X s U).1 b.1 a⟩
  ·show(Bj T V T.length [(V s).1] (V s).2).1.length<=602;have:=Aai (T:=T) V T.length [(V s).1] (V s).2;have f:=K.1.1;simp only[Bg,Bm] at this;omega
  rw[E9,E9];exact⟨Y s U c (Iy O Z b.1 a),trivial⟩
theorem Ajk(e:s.code=0)(I:AN T .name s=true)(h:(Do T none V s).2.code=0):B0 (Do T none V s).1:=by
 have J:=Q8 K U I;have d:=EZ O U I (by decide);have c:Av T (Ab (Ab s)):=fun h=>absurd e h;unfold Do at h⊢;by_cases a:Aj T Bl (Ab s)=true
 ·rw[Ag a] at h⊢;show B0 (.call _ _ _);rw[B0];exact⟨J,Aao O K Y X Z (AD O d a Ai) c h⟩
 ·rw[Ae a] at h⊢;by_cases b:Aj T BL (Ab s)=true
  ·rw[Ag b] at h⊢;show B0 (.elem _ _ _);rw[B0];exact⟨J,Y _ (AD O d b Ai) c (Bs h).1⟩
  ·rw[Ae b];show B0 (.var _ _);rw[B0];exact J
end
theorem Aas(K:NW T): ∀k,WX T (Bk T none k)
 |0=>fun s U l h=>(Fl (by decide) h).elim
 |k+1=>fun s U l h=>by
  have g:=Aas K k;have X:=Gm O none k;have Z:=Fi O none k;have i:=Aar O g X Z;have j:=Eu (Fi O none (k+1)) l h;have f:Av T (Ab s):=A4 j;rw[Bk] at h⊢;by_cases a:AN T .number s=true
  ·rw[Ag a];show B0 (.num _);rw[B0];unfold BV;rw[Ag a];exact K.2 _ (PC U) (by simpa[AN] using a)
  ·rw[Ae a] at h⊢;by_cases b:AN T .name s=true
   ·rw[Ag b] at h⊢;exact Ajk O K i (IK O X) (JX O Z) U j b h
   ·rw[Ae b] at h⊢;by_cases c:Aj T Bl s=true
    ·rw[Ag c] at h⊢;exact i _ (AD O U c Ai) f (Bs h).1
    ·rw[Ae c] at h⊢;by_cases d:Aj T FA s=true
     ·rw[Ag d] at h⊢;show B0 (.un _ _);rw[B0];exact g _ (AD O U d Ai) f h
     ·rw[Ae d] at h⊢;by_cases e:Aj T GP s=true
      ·rw[Ag e] at h⊢;show B0 (.un _ _);rw[B0];exact g _ (AD O U e Ai) f h
      ·rw[Ae e] at h;exact(Fl (by decide) h).elim
theorem Aji(K:NW T)(k:Nat):WX T (BA T none k):=Aar O (Aas O K k) (Gm O none k) (Fi O none k)
theorem Ajl(K:NW T){a:AU}(Y:WX T a)(X:AM T a)(Z:SM T a){s:PS}(U:An T s)(l:s.code=0)(I:AN T .name s=true)(h:(DE T none a s).2.code=0):BS (DE T none a s).1:=by
 have J:=Q8 K U I;have f:=EZ O U I (by decide);have b:Av T (Ab (Ab s)):=fun h=>absurd l h;unfold DE at h⊢;by_cases c:Aj T Bl (Ab s)=true
 ·rw[Ag c] at h⊢;show BS (.proc _ _ _);rw[BS];exact⟨J,Aao O K Y X Z (AD O f c Ai) b h⟩
 ·rw[Ae c] at h⊢;by_cases d:Aj T BL (Ab s)=true
  ·rw[Ag d] at h⊢;have g:=AD O f d Ai;have A:=(JY O Z _ b).1;have i:=(Dq O (f:=BK) Ai A).1;have j:=Eu Z i h;have k:=(Bs j).1;have m:=(Kj O X _ g).1;have n:=(Ch O (f:=BK) Ai m).1;show BS (.put _ _ _ _);rw[BS];exact⟨J,Y _ g b (Bs k).1,Y _ n i h⟩
  ·rw[Ae d] at h⊢;by_cases e:Aj T BK (Ab s)=true
   ·rw[Ag e] at h⊢;show BS (.assign _ _ _);rw[BS];exact⟨J,Y _ (AD O f e Ai) b h⟩
   ·rw[Ae e] at h;exact(Fl (by decide) (Eu Z (EL 4 (Ab s)) h)).elim
theorem Aav{st:PS->St×PS}(Y:WS T st)(X:AM T st)(Z:SM T st): ∀(n:Nat)(l:List St)(s:PS),DI l->An T s->Av T s->(BQ T st n l s).2.code=0->DI (BQ T st n l s).1
 |0,l,s,b,U,d,h=>b
 |n+1,l,s,b,U,d,h=>by
  have one:(A7 T st s).2.code=0->DI (A7 T st s).1:=fun c=>by
   unfold A7 at c⊢;split at c
   ·rename_i a;rw[Ag a];show DI [];rw[DI];trivial
   ·rename_i a;rw[Ae a];show DI [_];rw[DI,DI];exact⟨Y s U d c,trivial⟩
  rw[Nc] at h⊢;have g:=OT Z s d;have f:=OB X s U;by_cases a:Aj T AQ (A7 T st s).2=true
  ·rw[Ag a] at h⊢;have e:=Cp O g.1 Ai a;exact Aav Y X Z n _ _ (Uk (one e) b) (AD O f.1 a Ai) (A4 e) h
  ·rw[Ae a] at h⊢;exact Uk (one h) b
omit O in
theorem Aal(st:PS->St×PS): ∀(n:Nat)(l:List St)(s:PS),(BQ T st n l s).1.length<=l.length+n
 |0,l,s=>AA _
 |n+1,l,s=>by
  have one:(A7 T st s).1.length<=1:=by unfold A7;split<;>simp
  rw[BQ];split
  ·have:=Aal st n (l++(A7 T st s).1) (Ab (A7 T st s).2);rw[AG] at this;omega
  ·show(l++(A7 T st s).1).length<=_;rw[AG];omega
theorem Aaw(K:NW T){st:PS->St×PS}(Y:WS T st)(X:AM T st)(Z:SM T st){s:PS}(U:An T s)(a:Av T s)(h:(AK T st s).2.code=0):(AK T st s).1.length<=602/\DI (AK T st s).1:=
 ⟨by have:=Aal (T:=T) st T.length [] s;have b:=K.1.1;simp only[Bm] at this;show(BQ T st T.length [] s).1.length<=602;omega,Aav O Y X Z T.length [] s (by rw[DI];trivial) U a h⟩
theorem AaB(K:NW T): ∀k,WS T (AL T none k)
 |0=>fun s U z h=>(Fl (by decide) h).elim
 |k+1=>fun s U z h=>by
  have g:=AaB K k;have x:=Gp O none k;have e:=Ev O none k;have Y:=Aji O K k;have X:=Hw O none k;have Z:=Hy O none k;have y:=Eu (Ev O none (k+1)) z h;have b:Av T (Ab s):=A4 y;rw[AL] at h⊢;by_cases l:AN T .name s=true
  ·rw[Ag l] at h⊢;exact Ajl O K Y X Z U y l h
  ·rw[Ae l] at h⊢;by_cases m:Aj T IF s=true
   ·rw[Ag m] at h⊢;have a:=AD O U m Ai;have t:=X _ a;have w:=Z _ b;have i:=Ch O (f:=Bu) Ai t.1;have c:=Dq O (f:=Bu) Ai w.1;have A:=x _ i.1;have B:=e _ c.1;have key:(AL T none k (Am T Bu (BA T none k (Ab s)).2)).2.code=0->B0 (BA T none k (Ab s)).1/\BS (AL T none k (Am T Bu (BA T none k (Ab s)).2)).1:=fun d=>by have j:=Eu e c.1 d;exact⟨Y _ a b (Bs j).1,g _ i.1 c.1 d⟩
    unfold Dk at h⊢;by_cases f:Aj T E3 (AL T none k (Am T Bu (BA T none k (Ab s)).2)).2=true
    ·rw[Ag f] at h⊢;have d:=Cp O B.1 Ai f;obtain⟨u,v⟩:=key d;show BS (.ite _ _ _);rw[BS];exact⟨u,v,.inr (g _ (AD O A.1 f Ai) (A4 d) h)⟩
    ·rw[Ae f] at h⊢;obtain⟨u,v⟩:=key h;show BS (.ite _ _ .nil);rw[BS];exact⟨u,v,.inl rfl⟩
   ·rw[Ae m] at h⊢;by_cases n:Aj T IH s=true
    ·rw[Ag n] at h⊢;have a:=AD O U n Ai;have t:=X _ a;have w:=Z _ b;have i:=Ch O (f:=Eh) Ai t.1;have c:=Dq O (f:=Eh) Ai w.1;have j:=Eu e c.1 h;show BS (.loop _ _);rw[BS];exact⟨Y _ a b (Bs j).1,g _ i.1 c.1 h⟩
    ·rw[Ae n] at h⊢;by_cases o:Aj T Bc s=true
     ·rw[Ag o] at h⊢;show BS (.block _);rw[BS];exact Aaw O K g x e (AD O U o Ai) b (Bs h).1
     ·rw[Ae o] at h⊢;by_cases p:Aj T II s=true
      ·rw[Ag p] at h⊢;show BS (.write _);rw[BS];exact Y _ (AD O U p Ai) b h
      ·rw[Ae p] at h⊢;by_cases q:Aj T IG s=true
       ·rw[Ag q] at h⊢;have a:=AD O U q Ai;have r:(Ea T none (Ab s)).code=0:=h;show BS (.read _ _);rw[BS];unfold Ea at r;split at r
        ·rename_i I;rw[Kn I];exact Q8 K a I
        ·exact(Fl (by decide) r).elim
       ·rw[Ae q] at h;exact(Fl (by decide) h).elim
theorem Aap(K:NW T){s:PS}(U:An T s)(a:Av T s)(h:(AK T (AL T none 14) s).2.code=0):(AK T (AL T none 14) s).1.length<=602/\DI (AK T (AL T none 14) s).1:=
 Aaw O K (AaB O K 14) (Gp O none 14) (Ev O none 14) U a h
end
