/- Plain functions: the reader that looks at names as it goes.  -/
import Derived.Test.YtklobognaldjpaaGreatCPure5
namespace Go.Proofs.YtklobognaldjpaaGreat
open Go.Proofs.Tryz
structure Sy where
 name:Af
 kind:Nat
 args:Nat
 deriving Inhabited
structure Ao where
 glob:List Sy
 here:List Sy
 inside:Option Nat
 fresh:Bool
def DQ(b:List Sy)(c:Af):Nat->Option Nat
 |0=>none
 |a+1=>if((b.getD a default).name.toList==c.toList) then some a else DQ b c a
def A9(a:List Sy)(b:Af):Option Nat:=DQ a b a.length
def Ao.kindIx(a:Ao)(c:Af):Int×Int:=
 match A9 a.here c with
 |some _=>(0,-1)
 |none=>
  match A9 a.glob c with
  |none=>(-1,-1)
  |some b=>((a.glob.getD b default).kind,b)
def Ao.args(a:Ao)(c:Af):Nat:=
 match A9 a.glob c with
 |none=>0
 |some b=>(a.glob.getD b default).args
def Ao.isRes(a:Ao)(c:Af):Bool:=
 match a.inside with
 |none=>false
 |some b=>decide ((a.glob.getD b default).kind=3)&&((a.glob.getD b default).name.toList==c.toList)&&(A9 a.here c).isNone
def JL(a:Az):Bool:=(a.text.toList==Bl.toList)||(a.text.toList==BL.toList)
def Kg(a:Az):Bool:=(a.text.toList==AJ.toList)||(a.text.toList==Cn.toList)
def FN(a:Az):Bool:=a.text.toList==Bx.toList
def CH:List Az->Nat->Nat->Nat
 |[],_,a=>a
 |c::b,o,a=>
  if JL c then CH b (o+1) a
  else if Kg c then(if o=0 then a else CH b (o -1) a)
  else if FN c&&decide (o=0) then CH b o (a+1)
  else CH b o a
section
variable(T:List Az)
def Ih(s:PS):Nat:=if Aj T AJ (Ab (Ab s)) then 0 else CH (T.drop (s.next+2)) 0 1
def stop(a p:Nat):PS:=⟨a,p,T.length -1⟩
def Cs(m:Option Ao)(X:PS)(kind:Nat)(s:PS):PS:=
 match m with
 |none=>s
 |some a=>if(a.kindIx (Ad T X).text).1=kind then s else stop T 6 (Ad T X).pos
def Fb(m:Option Ao)(X:PS)(kind:Nat)(s:PS):PS:=
 match m with
 |none=>s
 |some a=>if(a.kindIx (Ad T X).text).1=kind then(if Ih T X=a.args (Ad T X).text then s else stop T 7 (Ad T X).pos) else stop T 6 (Ad T X).pos
def FK(m:Option Ao)(X s:PS):PS:=
 match m with
 |none=>s
 |some a=>if a.isRes (Ad T X).text then s else Cs T (some a) X 0 s
def Do(m:Option Ao)(a:AU)(s:PS):Ex×PS:=
 if Aj T Bl (Ab s) then(.call (Ad T s).text (Ad T s).pos (Ba T a (Fb T m s 3 (Ab (Ab s)))).1,(Ba T a (Fb T m s 3 (Ab (Ab s)))).2)
 else if Aj T BL (Ab s) then(.elem (Ad T s).text (Ad T s).pos (Cg T a (Cs T m s 1 (Ab (Ab s)))).1,(Cg T a (Cs T m s 1 (Ab (Ab s)))).2)
 else(.var (Ad T s).text (Ad T s).pos,Cs T m s 0 (Ab s))
def Bk(m:Option Ao):Nat->PS->Ex×PS
 |0,s=>(.nil,AI T 5 s)
 |a+1,s=>
  if AN T .number s then(.num (BV T s).1.1,(BV T s).2)
  else if AN T .name s then Do T m (EA T (Bk m a)) s
  else if Aj T Bl s then((EA T (Bk m a) (Ab s)).1,Am T AJ (EA T (Bk m a) (Ab s)).2)
  else if Aj T FA s then(.un FA (Bk m a (Ab s)).1,(Bk m a (Ab s)).2)
  else if Aj T GP s then(.un GP (Bk m a (Ab s)).1,(Bk m a (Ab s)).2)
  else(.nil,AI T 4 s)
def BA(m:Option Ao)(a:Nat):PS->Ex×PS:=EA T (Bk T m a)
def DE(m:Option Ao)(a:AU)(s:PS):St×PS:=
 if Aj T Bl (Ab s) then(.proc (Ad T s).text (Ad T s).pos (Ba T a (Fb T m s 2 (Ab (Ab s)))).1,(Ba T a (Fb T m s 2 (Ab (Ab s)))).2)
 else if Aj T BL (Ab s) then
  (.put (Ad T s).text (Ad T s).pos (Cg T a (Cs T m s 1 (Ab (Ab s)))).1 (a (Am T BK (Cg T a (Cs T m s 1 (Ab (Ab s)))).2)).1,(a (Am T BK (Cg T a (Cs T m s 1 (Ab (Ab s)))).2)).2)
 else if Aj T BK (Ab s) then(.assign (Ad T s).text (Ad T s).pos (a (FK T m s (Ab (Ab s)))).1,(a (FK T m s (Ab (Ab s)))).2)
 else(.assign (Ad T s).text (Ad T s).pos (a (AI T 4 (Ab s))).1,(a (AI T 4 (Ab s))).2)
def Ea(m:Option Ao)(s:PS):PS:=if AN T .name s then Cs T m s 0 (Ab s) else AI T 4 s
def AL(m:Option Ao):Nat->PS->St×PS
 |0,s=>(.nil,AI T 5 s)
 |a+1,s=>
  if AN T .name s then DE T m (BA T m a) s
  else if Aj T IF s then Dk T (BA T m a) (AL m a) (Ab s)
  else if Aj T IH s then F6 T (BA T m a) (AL m a) (Ab s)
  else if Aj T Bc s then(.block (AK T (AL m a) (Ab s)).1,Am T By (AK T (AL m a) (Ab s)).2)
  else if Aj T II s then(.write (BA T m a (Ab s)).1,(BA T m a (Ab s)).2)
  else if Aj T IG s then(.read (Ap T (Ab s)).1.1 (Ap T (Ab s)).1.2,Ea T m (Ab s))
  else(.nil,AI T 4 s)
end
section
variable{T:List Az}
theorem Kn{s:PS}(a:AN T .name s=true):Ap T s=(((Ad T s).text,(Ad T s).pos),Ab s):=by simp[Ap,a]
theorem Afa{a:AU}{s:PS}(b:AN T .name s=true):Do T none a s=FQ T a s:=by unfold Do FQ;rw[Kn b];rfl
theorem VP: ∀a,Bk T none a=Da T a
 |0=>rfl
 |a+1=>by
  funext s
  rw[Bk,Da,VP a];split
  ·rfl
  ·split
   ·rename_i b;exact Afa b
   ·rfl
theorem Aco(a:Nat):BA T none a=EQ T a:=by unfold BA EQ;rw[VP]
theorem Afc{a:AU}{s:PS}(b:AN T .name s=true):DE T none a s=FR T a s:=by
 unfold DE FR;rw[Kn b];split
 ·rfl
 ·split
  ·rfl
  ·rename_i c d;unfold Am;split
   ·rfl
   ·rfl
theorem Hg: ∀a,AL T none a=CV T a
 |0=>rfl
 |a+1=>by
  funext s
  rw[AL,CV,Hg a,Aco];split
  ·rename_i c;exact Afc c
  ·have b:Ea T none (Ab s)=(Ap T (Ab s)).2:=by unfold Ea Ap;split<;>rfl
   rw[b]
variable(O:AR T)
include O
theorem LR(a p:Nat){s:PS}(U:An T s):An T (stop T a p)/\s.next<=(stop T a p).next:=⟨by have:=O.pos;show T.length -1<T.length;omega,by have:s.next<T.length:=U;show s.next<=T.length -1;omega⟩
section
variable(m:Option Ao)(X:PS)(kind:Nat){s:PS}(U:An T s)
include m X kind U
theorem LU:An T (Cs T m X kind s)/\s.next<=(Cs T m X kind s).next:=by
 unfold Cs;split
 ·exact⟨U,AA _⟩
 ·split
  ·exact⟨U,AA _⟩
  ·exact LR O _ _ U
theorem Tu:An T (Fb T m X kind s)/\s.next<=(Fb T m X kind s).next:=by
 unfold Fb;split
 ·exact⟨U,AA _⟩
 ·split
  ·split
   ·exact⟨U,AA _⟩
   ·exact LR O _ _ U
  ·exact LR O _ _ U
end
theorem XT(m:Option Ao)(X:PS){s:PS}(U:An T s):An T (FK T m X s)/\s.next<=(FK T m X s).next:=by
 unfold FK;split
 ·exact⟨U,AA _⟩
 ·split
  ·exact⟨U,AA _⟩
  ·exact LU O _ _ _ U
omit O in
theorem KB(m:Option Ao)(X:PS)(kind:Nat){s:PS}(V:Av T s):Av T (Cs T m X kind s):=by
 unfold Cs;split
 ·exact V
 ·split
  ·exact V
  ·exact fun _=>rfl
omit O in
theorem OY(m:Option Ao)(X:PS)(kind:Nat){s:PS}(V:Av T s):Av T (Fb T m X kind s):=by
 unfold Fb;split
 ·exact V
 ·split
  ·split
   ·exact V
   ·exact fun _=>rfl
  ·exact fun _=>rfl
omit O in
theorem T6(m:Option Ao)(X:PS){s:PS}(V:Av T s):Av T (FK T m X s):=by
 unfold FK;split
 ·exact V
 ·split
  ·exact V
  ·exact KB _ _ _ V
theorem XY(m:Option Ao){e:AU}(f:AM T e){s:PS}(U:An T s)(g:AN T .name s=true):An T (Do T m e s).2/\s.next<=(Do T m e s).2.next:=by
 have d:=EZ O U g (by decide);have h:(Ab s).next=s.next+1:=rfl
 have i:(Ab (Ab s)).next=s.next+2:=rfl
 unfold Do;split
 ·rename_i c;have a:=Tu O m s 3 (AD O d c Ai);have b:=Qj O f _ a.1;exact⟨b.1,by have:=a.2;have:=b.2;simp only;omega⟩
 ·split
  ·rename_i c;have a:=LU O m s 1 (AD O d c Ai);have b:=Kj O f _ a.1;exact⟨b.1,by have:=a.2;have:=b.2;simp only;omega⟩
  ·have a:=LU O m s 0 d;exact⟨a.1,by have:=a.2;simp only;omega⟩
theorem Gm(m:Option Ao): ∀c,AM T (Bk T m c)
 |0=>fun s U=>⟨Gh O 5 s,FO 5 U⟩
 |c+1=>fun s U=>by
  have b:=Gm m c;have f:=IK O b;rw[Bk];split
  ·exact OC O s U
  ·split
   ·rename_i a;exact XY O m f U a
   ·split
    ·rename_i a;have d:=Ew O f Ai U a;have e:=Ch O (f:=AJ) Ai d.1;exact⟨e.1,AT d.2 e.2⟩
    ·split
     ·rename_i a;exact Ew O b Ai U a
     ·split
      ·rename_i a;exact Ew O b Ai U a
      ·exact⟨Gh O 4 s,FO 4 U⟩
theorem Hw(m:Option Ao)(a:Nat):AM T (BA T m a):=IK O (Gm O m a)
theorem Aip(m:Option Ao){d:AU}(a:SM T d){s:PS}(c:s.code=0):Av T (Do T m d s).2:=by
 have b:Av T (Ab (Ab s)):=fun e=>absurd c e;unfold Do;split
 ·exact(Li O a _ (OY m s 3 b)).1
 ·split
  ·exact(JY O a _ (KB m s 1 b)).1
  ·exact KB m s 0 (A4 c)
theorem Fi(m:Option Ao): ∀c,SM T (Bk T m c)
 |0=>fun s V=>⟨EL 5 s,GM 5 V⟩
 |c+1=>fun s V=>by
  have b:=Fi m c;have e:=JX O b;rw[Bk];split
  ·exact OU O s V
  ·split
   ·rename_i a;have d:=MF O V (by decide) a;exact⟨Aip O m e d,fun a=>absurd d a⟩
   ·split
    ·rename_i a;exact F3 (FE O e Ai V a) (Dq O (show AJ.toList≠[] from Ai))
    ·split
     ·rename_i a;exact FE O b Ai V a
     ·split
      ·rename_i a;exact FE O b Ai V a
      ·exact⟨EL 4 s,GM 4 V⟩
section
variable(m:Option Ao)
include m
theorem Hy(a:Nat):SM T (BA T m a):=JX O (Fi O m a)
theorem Ae3{f:AU}(d:AM T f){s:PS}(U:An T s)(h:AN T .name s=true):An T (DE T m f s).2/\s.next<=(DE T m f s).2.next:=by
 have e:=EZ O U h (by decide);have i:(Ab s).next=s.next+1:=rfl
 have j:(Ab (Ab s)).next=s.next+2:=rfl
 unfold DE;split
 ·rename_i c;have b:=Tu O m s 2 (AD O e c Ai);have a:=Qj O d _ b.1;exact⟨a.1,by have:=b.2;have:=a.2;simp only;omega⟩
 ·split
  ·rename_i c;have b:=LU O m s 1 (AD O e c Ai);have a:=Kj O d _ b.1;have g:=LQ O d (show BK.toList≠[] from Ai) a.1;exact⟨g.1,by have:=b.2;have:=a.2;have:=g.2;simp only;omega⟩
  ·split
   ·rename_i c;have b:=XT O m s (AD O e c Ai);have a:=d _ b.1;exact⟨a.1,by have:=b.2;have:=a.2;simp only;omega⟩
   ·have a:=d _ (Gh O 4 (Ab s));have b:=FO (T:=T) 4 e;exact⟨a.1,by have:=a.2;simp only;omega⟩
theorem Ae4{s:PS}(U:An T s):An T (Ea T m s)/\s.next<=(Ea T m s).next:=by
 unfold Ea;split
 ·rename_i b;have a:=LU O m s 0 (EZ O U b (by decide));have c:(Ab s).next=s.next+1:=rfl
  exact⟨a.1,by have:=a.2;omega⟩
 ·exact⟨Gh O 4 s,FO 4 U⟩
theorem AhG{s:PS}(V:Av T s):Av T (Ea T m s)/\(s.code≠0->Ea T m s=s):=by
 unfold Ea;split
 ·rename_i a;have b:=MF O V (by decide) a;exact⟨KB m s 0 (A4 b),fun a=>absurd b a⟩
 ·exact⟨EL 4 s,GM 4 V⟩
end
theorem Gp(m:Option Ao): ∀d,AM T (AL T m d)
 |0=>fun s U=>⟨Gh O 5 s,FO 5 U⟩
 |d+1=>fun s U=>by
  have e:=Gp m d;have c:=Hw O m d;rw[AL];split
  ·rename_i a;exact Ae3 O m c U a
  ·split
   ·rename_i a;exact Ew O (XV O c e) Ai U a
   ·split
    ·rename_i a;exact Ew O (X4 O c e) Ai U a
    ·split
     ·rename_i a;have b:=Ew O (JQ O e) Ai U a;have f:=Ch O (f:=By) Ai b.1;exact⟨f.1,AT b.2 f.2⟩
     ·split
      ·rename_i a;exact Ew O c Ai U a
      ·split
       ·rename_i a;have b:=Ae4 O m (AD O U a Ai);have g:(Ab s).next=s.next+1:=rfl
        exact⟨b.1,by have:=b.2;simp only;omega⟩
       ·exact⟨Gh O 4 s,FO 4 U⟩
theorem Aiq(m:Option Ao){c:AU}(a:SM T c){s:PS}(e:s.code=0):Av T (DE T m c s).2:=by
 have b:Av T (Ab (Ab s)):=fun d=>absurd e d;unfold DE;split
 ·exact(Li O a _ (OY m s 2 b)).1
 ·split
  ·exact(OQ O a (show BK.toList≠[] from Ai) (JY O a _ (KB m s 1 b)).1).1
  ·split
   ·exact(a _ (T6 m s b)).1
   ·exact(a _ (EL 4 (Ab s))).1
theorem Ev(m:Option Ao): ∀d,SM T (AL T m d)
 |0=>fun s V=>⟨EL 5 s,GM 5 V⟩
 |d+1=>fun s V=>by
  have e:=Ev m d;have c:=Hy O m d;rw[AL];split
  ·rename_i a;have b:=MF O V (by decide) a;exact⟨Aiq O m c b,fun a=>absurd b a⟩
  ·split
   ·rename_i a;exact FE O (Zv O c e) Ai V a
   ·split
    ·rename_i a;exact FE O (Zz O c e) Ai V a
    ·split
     ·rename_i a;exact F3 (FE O (JZ O e) Ai V a) (Dq O (show By.toList≠[] from Ai))
     ·split
      ·rename_i a;exact FE O c Ai V a
      ·split
       ·rename_i a;have b:=Cp O V Ai a;exact⟨(AhG O m (A4 b)).1,fun a=>absurd b a⟩
       ·exact⟨EL 4 s,GM 4 V⟩
end
def Ao.row(a:Ao)(b:Bool):List Sy:=if b then a.here else a.glob
def Ao.add(a:Ao)(c:Bool)(b:Sy):Ao:=if c then{a with here:=a.here++[b]} else{a with glob:=a.glob++[b],fresh:=true}
def Ao.enter(a:Ao):Ao:={a with inside:=some (a.glob.length -1),fresh:=false}
def Ao.leave(a:Ao):Ao:={a with here:=[],inside:=none,fresh:=false}
section
variable(T:List Az)
def BM(m:Option Ao)(b:Bool)(X:PS)(kind args:Nat)(s:PS):Option Ao×PS:=
 match m with
 |none=>(none,s)
 |some a=>
  if s.code=0 then
   (if(A9 (a.row b) (Ad T X).text).isSome then(some a,stop T 6 (Ad T X).pos) else(some (a.add b ⟨(Ad T X).text,kind,args⟩),s))
  else(some a,s)
def Hf(m:Option Ao)(X s:PS):PS:=
 match m with
 |none=>s
 |some _=>if s.code=0/\((Ad T X).val<1\/20<(Ad T X).val) then stop T 3 (Ad T X).pos else s
def FC(m:Option Ao)(X:PS)(a:Nat)(s:PS):PS:=
 match m with
 |none=>s
 |some _=>if s.code=0/\4<a then stop T 7 (Ad T X).pos else s
def C2(m:Option Ao)(s:PS):Option Ao×PS:=
 if Aj T BL (Ap T s).2 then
  ((BM T m false s 1 0 (BV T (Ab (Ap T s).2)).2).1,Am T Cn (Hf T m (Ab (Ap T s).2) (BM T m false s 1 0 (BV T (Ab (Ap T s).2)).2).2))
 else BM T m false s 0 0 (Ap T s).2
def ED:Nat->Option Ao->PS->Option Ao×PS
 |0,m,s=>(m,s)
 |a+1,m,s=>if Aj T Bx s then ED a (C2 T m (Ab s)).1 (C2 T m (Ab s)).2 else(m,s)
def EH(m:Option Ao)(s:PS):Option Ao×PS:=
 ((ED T T.length (C2 T m s).1 (C2 T m s).2).1,Am T AQ (ED T T.length (C2 T m s).1 (C2 T m s).2).2)
def DX(m:Option Ao)(s:PS):Option Ao×PS:=BM T m true s 0 0 (Ap T s).2
def EC:Nat->Option Ao->PS->Option Ao×PS
 |0,m,s=>(m,s)
 |a+1,m,s=>if Aj T Bx s then EC a (DX T m (Ab s)).1 (DX T m (Ab s)).2 else(m,s)
def C1(m:Option Ao)(s:PS):Option Ao×PS:=EC T T.length (DX T m s).1 (DX T m s).2
def Hx(m:Option Ao)(s:PS):Option Ao×PS:=if Aj T AJ s then(m,s) else C1 T m s
def Et:Nat->Option Ao->PS->Option Ao×PS
 |0,m,s=>(m,s)
 |a+1,m,s=>if Aj T CJ s then Et a (C1 T m (Ab s)).1 (Am T AQ (C1 T m (Ab s)).2) else(m,s)
def Gd:List Az->Nat->Nat
 |c::d::b,a=>if c.kind=.name then(if FN d then Gd b (a+1) else a+1) else a
 |_,a=>a
def DB(s:PS):Nat:=Gd (T.drop s.next) 0
def Bn(s:PS):PS:=Am T Bl (Ap T s).2
def DZ(m:Option Ao)(kind:Nat)(s:PS):Option Ao×PS:=
 ((BM T m false s kind (DB T (Bn T s)) (Bn T s)).1,FC T m s (DB T (Bn T s)) (BM T m false s kind (DB T (Bn T s)) (Bn T s)).2)
def EJ(m:Option Ao)(kind:Nat)(s:PS):Option Ao×PS:=Hx T (DZ T m kind s).1 (DZ T m kind s).2
def DS(m:Option Ao)(kind:Nat)(s:PS):Option Ao×PS:=Et T T.length (EJ T m kind s).1 (Am T AJ (EJ T m kind s).2)
def CO(m:Option Ao)(kind:Nat)(s:PS):Option Ao×PS:=
 ((DS T m kind s).1.map Ao.leave,Am T AQ (Am T By (AK T (AL T ((DS T m kind s).1.map Ao.enter) 14) (Am T Bc (DS T m kind s).2)).2))
def D6:Nat->Option Ao->PS->Option Ao×PS
 |0,m,s=>(m,s)
 |a+1,m,s=>
  if Aj T CJ s then D6 a (EH T m (Ab s)).1 (EH T m (Ab s)).2
  else if Aj T F0 s then D6 a (CO T m 2 (Ab s)).1 (CO T m 2 (Ab s)).2
  else if Aj T GO s then D6 a (CO T m 3 (Ab s)).1 (CO T m 3 (Ab s)).2
  else(m,s)
def LG(m:Option Ao)(s:PS):Option Ao×PS:=D6 T T.length m s
def Jg(m:Option Ao)(s:PS):PS:=Am T By (AK T (AL T m 14) (Am T Bc s)).2
def ES(m:Option Ao)(s:PS):PS:=Dm T (Am T DR (Jg T (LG T m s).1 (LG T m s).2))
end
section
variable{T:List Az}
theorem SO(s:PS):C2 T none s=(none,(AE T s).2):=by unfold C2 AE;split<;>rfl
theorem SQ: ∀(a:Nat)(b:List Gl)(s:PS),ED T a none s=(none,(Bw T a b s).2)
 |0,b,s=>rfl
 |a+1,b,s=>by
  rw[ED,Bw];split
  ·rw[SO];exact SQ a _ _
  ·rfl
theorem WF(s:PS):EH T none s=(none,(BP T s).2):=by unfold EH BP;rw[SO,SQ]
theorem PY: ∀(a:Nat)(b:List A8)(s:PS),EC T a none s=(none,(Bp T a b s).2)
 |0,b,s=>rfl
 |a+1,b,s=>by
  rw[EC,Bp];split
  ·exact PY a _ _
  ·rfl
theorem SG(s:PS):C1 T none s=(none,(Bf T s).2):=PY _ _ _
theorem Qw(s:PS):Hx T none s=(none,(Cz T s).2):=by
 unfold Hx Cz;split
 ·rfl
 ·exact SG s
theorem Ow: ∀(a:Nat)(b:List A8)(s:PS),Et T a none s=(none,(B5 T a b s).2)
 |0,b,s=>rfl
 |a+1,b,s=>by
  rw[Et,B5];split
  ·rw[SG];exact Ow a _ _
  ·rfl
theorem Za(kind:Nat)(s:PS):EJ T none kind s=(none,(ET T s).2):=Qw _
theorem Zb(kind:Nat)(s:PS):DS T none kind s=(none,(Cx T s).2):=by unfold DS Cx;rw[Za];exact Ow _ _ _
theorem TR(kind:Nat)(s:PS):CO T none kind s=(none,(AZ T s).2):=by unfold CO AZ BT;rw[Zb];show(none,Am T AQ (Am T By (AK T (AL T none 14) _).2))=_;rw[Hg]
theorem KW: ∀(a:Nat)(b:List Gl)(s:PS),D6 T a none s=(none,(BC T a b s).2)
 |0,b,s=>rfl
 |a+1,b,s=>by
  rw[D6,BC];split
  ·rw[WF];exact KW a _ _
  ·split
   ·rw[TR];exact KW a _ _
   ·split
    ·rw[TR];exact KW a _ _
    ·rfl
theorem AfY(s:PS):ES T none s=(Bd T s).2:=by unfold ES Bd LG BJ;rw[KW T.length [] s];unfold Jg BT;rw[Hg]
structure CZ(T:List Az)(s r:PS):Prop where
 good:An T r
 le:s.next<=r.next
 stk:Av T r
 still:s.code≠0->r=s
theorem CZ.trans{s e d:PS}(c:CZ T s e)(a:CZ T e d):CZ T s d:=
 ⟨a.good,AT c.le a.le,a.stk,fun b=>by rw[a.still (by rw[c.still b];exact b),c.still b]⟩
theorem CZ.refl{s:PS}(U:An T s)(V:Av T s):CZ T s s:=⟨U,AA _,V,fun _=>rfl⟩
theorem CZ.of{c:Type}{f:PS->c×PS}(a:AM T f)(b:SM T f){s:PS}(U:An T s)(V:Av T s):CZ T s (f s).2:=
 ⟨(a s U).1,(a s U).2,(b s V).1,(b s V).2⟩
variable(O:AR T)
include O
section
variable{f:Af}(Y:f.toList≠[]){s:PS}(U:An T s)(V:Av T s)
include Y U V
theorem B4:CZ T s (Am T f s):=
 ⟨(Ch O Y U).1,(Ch O Y U).2,(Dq O Y V).1,(Dq O Y V).2⟩
theorem Fz(a:Aj T f s=true):CZ T s (Ab s):=
 have b:=Cp O V Y a
 ⟨AD O U a Y,Ic _,A4 b,fun a=>absurd b a⟩
end
theorem SF{a p:Nat}{s:PS}(U:An T s)(c:s.code=0):CZ T s (stop T a p):=
 ⟨(LR O a p U).1,(LR O a p U).2,fun _=>rfl,fun b=>absurd c b⟩
theorem Gg(m:Option Ao)(b:Bool)(X:PS)(kind args:Nat){s:PS}(U:An T s)(V:Av T s):CZ T s (BM T m b X kind args s).2:=by
 unfold BM;split
 ·exact .refl U V
 ·split
  ·rename_i a;split
   ·exact SF O U a
   ·exact .refl U V
  ·exact .refl U V
theorem PU(m:Option Ao)(X:PS){s:PS}(U:An T s)(V:Av T s):CZ T s (Hf T m X s):=by
 unfold Hf;split
 ·exact .refl U V
 ·split
  ·rename_i a;exact SF O U a.1
  ·exact .refl U V
theorem Om(m:Option Ao)(X:PS)(b:Nat){s:PS}(U:An T s)(V:Av T s):CZ T s (FC T m X b s):=by
 unfold FC;split
 ·exact .refl U V
 ·split
  ·rename_i a;exact SF O U a.1
  ·exact .refl U V
theorem EY{s:PS}(U:An T s)(V:Av T s):CZ T s (Ap T s).2:=.of (Gn O) (In O) U V
theorem On{s:PS}(U:An T s)(V:Av T s):CZ T s (BV T s).2:=.of (OC O) (OU O) U V
theorem KY(m:Option Ao){s:PS}(U:An T s)(V:Av T s):CZ T s (C2 T m s).2:=by
 have a:=EY O U V;unfold C2;split
 ·rename_i f;have b:=Fz O Ai a.good a.stk f;have c:=On O b.good b.stk;have d:=Gg O m false s 1 0 c.good c.stk;have e:=PU O m (Ab (Ap T s).2) d.good d.stk;exact((((a.trans b).trans c).trans d).trans e).trans (B4 O Ai e.good e.stk)
 ·exact a.trans (Gg O m false s 0 0 a.good a.stk)
theorem LH: ∀(c:Nat)(m:Option Ao)(s:PS),An T s->Av T s->CZ T s (ED T c m s).2
 |0,m,s,U,V=>.refl U V
 |c+1,m,s,U,V=>by
  rw[ED];split
  ·rename_i d;have a:=Fz O Ai U V d;have b:=KY O m a.good a.stk;exact(a.trans b).trans (LH c _ _ b.good b.stk)
  ·exact .refl U V
section
variable(m:Option Ao){s:PS}(U:An T s)(V:Av T s)
include m U V
theorem Ol:CZ T s (EH T m s).2:=by have a:=KY O m U V;have b:=LH O T.length (C2 T m s).1 _ a.good a.stk;exact(a.trans b).trans (B4 O Ai b.good b.stk)
theorem MQ:CZ T s (DX T m s).2:=
 have a:=EY O U V
 a.trans (Gg O m true s 0 0 a.good a.stk)
end
theorem KX: ∀(c:Nat)(m:Option Ao)(s:PS),An T s->Av T s->CZ T s (EC T c m s).2
 |0,m,s,U,V=>.refl U V
 |c+1,m,s,U,V=>by
  rw[EC];split
  ·rename_i d;have a:=Fz O Ai U V d;have b:=MQ O m a.good a.stk;exact(a.trans b).trans (KX c _ _ b.good b.stk)
  ·exact .refl U V
section
variable(m:Option Ao){s:PS}(U:An T s)(V:Av T s)
include m U V
theorem JI:CZ T s (C1 T m s).2:=by have a:=MQ O m U V;exact a.trans (KX O T.length (DX T m s).1 _ a.good a.stk)
theorem LI:CZ T s (Hx T m s).2:=by
 unfold Hx;split
 ·exact .refl U V
 ·exact JI O m U V
end
theorem Ja: ∀(d:Nat)(m:Option Ao)(s:PS),An T s->Av T s->CZ T s (Et T d m s).2
 |0,m,s,U,V=>.refl U V
 |d+1,m,s,U,V=>by
  rw[Et];split
  ·rename_i e;have a:=Fz O Ai U V e;have b:=JI O m a.good a.stk;have c:=B4 O (f:=AQ) Ai b.good b.stk;exact((a.trans b).trans c).trans (Ja d _ _ c.good c.stk)
  ·exact .refl U V
theorem IC{s:PS}(U:An T s)(V:Av T s):CZ T s (Bn T s):=
 have a:=EY O U V
 a.trans (B4 O Ai a.good a.stk)
section
variable(m:Option Ao)(kind:Nat){s:PS}(U:An T s)(V:Av T s)
include m kind U V
theorem PR:CZ T s (DZ T m kind s).2:=by have a:=IC O U V;have b:=Gg O m false s kind (DB T (Bn T s)) a.good a.stk;exact(a.trans b).trans (Om O m s _ b.good b.stk)
theorem Oo:CZ T s (EJ T m kind s).2:=
 have a:=PR O m kind U V
 a.trans (LI O _ a.good a.stk)
theorem PT:CZ T s (DS T m kind s).2:=by have a:=Oo O m kind U V;have b:=B4 O (f:=AJ) Ai a.good a.stk;exact(a.trans b).trans (Ja O _ _ _ b.good b.stk)
end
theorem GN(m:Option Ao)(a:Nat){s:PS}(U:An T s)(V:Av T s):CZ T s (AK T (AL T m a) s).2:=.of (JQ O (Gp O m a)) (JZ O (Ev O m a)) U V
theorem LJ(m:Option Ao)(kind:Nat){s:PS}(U:An T s)(V:Av T s):CZ T s (CO T m kind s).2:=by have a:=PT O m kind U V;have b:=B4 O (f:=Bc) Ai a.good a.stk;have c:=GN O ((DS T m kind s).1.map Ao.enter) 14 b.good b.stk;have d:=B4 O (f:=By) Ai c.good c.stk;exact(((a.trans b).trans c).trans d).trans (B4 O Ai d.good d.stk)
end
