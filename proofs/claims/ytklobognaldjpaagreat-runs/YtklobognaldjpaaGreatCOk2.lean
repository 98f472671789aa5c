/- What an interface value holds. Plain: where nothing is wrong -/
import Derived.Test.YtklobognaldjpaaGreatCLk1
namespace Go.Proofs.YtklobognaldjpaaGreat
open Go.Proofs.Tryz
open Go.RowKit
theorem FV{a d b:TypeId}{e c:Value}{w:World}(h:b≠a)(f:(Instr.typeAssert (.iface b c) d a true).run prog w=(if b=a then(pure (Value.tuple #[c,.bool true]):Sem Value) else(do pure (Value.tuple #[<-zeroValue a,.bool false]))).run prog w)(hz:(do pure (Value.tuple #[<-zeroValue a,.bool false]):Sem Value).run prog w=.ok e w):(Instr.typeAssert (.iface b c) d a true).run prog w=.ok e w:=by rw[f,Ae h];exact hz
@[go_sem] theorem Akg (w:World):(Instr.typeAssert .nilIface 251 284 true).run prog w=.ok (.tuple #[.agg #[.string ByteArray.empty,Aa 0],.bool false]) w:=by kernel_rfl
@[go_sem] theorem Aki (a:Value) (w:World):(Instr.typeAssert (.iface 284 a) 251 284 true).run prog w=.ok (.tuple #[a,.bool true]) w:=by kernel_rfl
@[go_sem] theorem Akh (a:TypeId) (b:Value) (w:World) (h:a≠284):(Instr.typeAssert (.iface a b) 251 284 true).run prog w=.ok (.tuple #[.agg #[.string ByteArray.empty,Aa 0],.bool false]) w:=FV h (by kernel_rfl) (by kernel_rfl)
@[go_sem] theorem AjR (w:World):(Instr.typeAssert .nilIface 251 286 true).run prog w=.ok (.tuple #[.agg #[.string ByteArray.empty,Aa 0,.nilIface],.bool false]) w:=by kernel_rfl
@[go_sem] theorem AjT (a:Value) (w:World):(Instr.typeAssert (.iface 286 a) 251 286 true).run prog w=.ok (.tuple #[a,.bool true]) w:=by kernel_rfl
@[go_sem] theorem AjS (a:TypeId) (b:Value) (w:World) (h:a≠286):(Instr.typeAssert (.iface a b) 251 286 true).run prog w=.ok (.tuple #[.agg #[.string ByteArray.empty,Aa 0,.nilIface],.bool false]) w:=FV h (by kernel_rfl) (by kernel_rfl)
@[go_sem] theorem AjL (w:World):(Instr.typeAssert .nilIface 251 287 true).run prog w=.ok (.tuple #[.agg #[.string ByteArray.empty,Aa 0,Aw],.bool false]) w:=by kernel_rfl
@[go_sem] theorem AjN (a:Value) (w:World):(Instr.typeAssert (.iface 287 a) 251 287 true).run prog w=.ok (.tuple #[a,.bool true]) w:=by kernel_rfl
@[go_sem] theorem AjM (a:TypeId) (b:Value) (w:World) (h:a≠287):(Instr.typeAssert (.iface a b) 251 287 true).run prog w=.ok (.tuple #[.agg #[.string ByteArray.empty,Aa 0,Aw],.bool false]) w:=FV h (by kernel_rfl) (by kernel_rfl)
@[go_sem] theorem AjF (w:World):(Instr.typeAssert .nilIface 251 289 true).run prog w=.ok (.tuple #[.agg #[.string ByteArray.empty,.nilIface,.nilIface],.bool false]) w:=by kernel_rfl
@[go_sem] theorem AjH (a:Value) (w:World):(Instr.typeAssert (.iface 289 a) 251 289 true).run prog w=.ok (.tuple #[a,.bool true]) w:=by kernel_rfl
@[go_sem] theorem AjG (a:TypeId) (b:Value) (w:World) (h:a≠289):(Instr.typeAssert (.iface a b) 251 289 true).run prog w=.ok (.tuple #[.agg #[.string ByteArray.empty,.nilIface,.nilIface],.bool false]) w:=FV h (by kernel_rfl) (by kernel_rfl)
@[go_sem] theorem Aka (w:World):(Instr.typeAssert .nilIface 251 292 true).run prog w=.ok (.tuple #[.agg #[.string ByteArray.empty,.nilIface],.bool false]) w:=by kernel_rfl
@[go_sem] theorem Akc (a:Value) (w:World):(Instr.typeAssert (.iface 292 a) 251 292 true).run prog w=.ok (.tuple #[a,.bool true]) w:=by kernel_rfl
@[go_sem] theorem Akb (a:TypeId) (b:Value) (w:World) (h:a≠292):(Instr.typeAssert (.iface a b) 251 292 true).run prog w=.ok (.tuple #[.agg #[.string ByteArray.empty,.nilIface],.bool false]) w:=FV h (by kernel_rfl) (by kernel_rfl)
@[go_sem] theorem AjC (w:World):(Instr.typeAssert .nilIface 225 253 true).run prog w=.ok (.tuple #[.agg #[.string ByteArray.empty,Aa 0,.nilIface],.bool false]) w:=by kernel_rfl
@[go_sem] theorem AjE (a:Value) (w:World):(Instr.typeAssert (.iface 253 a) 225 253 true).run prog w=.ok (.tuple #[a,.bool true]) w:=by kernel_rfl
@[go_sem] theorem AjD (a:TypeId) (b:Value) (w:World) (h:a≠253):(Instr.typeAssert (.iface a b) 225 253 true).run prog w=.ok (.tuple #[.agg #[.string ByteArray.empty,Aa 0,.nilIface],.bool false]) w:=FV h (by kernel_rfl) (by kernel_rfl)
@[go_sem] theorem Ajz (w:World):(Instr.typeAssert .nilIface 225 257 true).run prog w=.ok (.tuple #[.agg #[.string ByteArray.empty,Aa 0,.nilIface,.nilIface],.bool false]) w:=by kernel_rfl
@[go_sem] theorem AjB (a:Value) (w:World):(Instr.typeAssert (.iface 257 a) 225 257 true).run prog w=.ok (.tuple #[a,.bool true]) w:=by kernel_rfl
@[go_sem] theorem AjA (a:TypeId) (b:Value) (w:World) (h:a≠257):(Instr.typeAssert (.iface a b) 225 257 true).run prog w=.ok (.tuple #[.agg #[.string ByteArray.empty,Aa 0,.nilIface,.nilIface],.bool false]) w:=FV h (by kernel_rfl) (by kernel_rfl)
@[go_sem] theorem AjO (w:World):(Instr.typeAssert .nilIface 225 261 true).run prog w=.ok (.tuple #[.agg #[.string ByteArray.empty,Aa 0,Aw],.bool false]) w:=by kernel_rfl
@[go_sem] theorem AjQ (a:Value) (w:World):(Instr.typeAssert (.iface 261 a) 225 261 true).run prog w=.ok (.tuple #[a,.bool true]) w:=by kernel_rfl
@[go_sem] theorem AjP (a:TypeId) (b:Value) (w:World) (h:a≠261):(Instr.typeAssert (.iface a b) 225 261 true).run prog w=.ok (.tuple #[.agg #[.string ByteArray.empty,Aa 0,Aw],.bool false]) w:=FV h (by kernel_rfl) (by kernel_rfl)
@[go_sem] theorem AjX (w:World):(Instr.typeAssert .nilIface 225 264 true).run prog w=.ok (.tuple #[.agg #[.nilIface,.nilIface,.nilIface],.bool false]) w:=by kernel_rfl
@[go_sem] theorem AjZ (a:Value) (w:World):(Instr.typeAssert (.iface 264 a) 225 264 true).run prog w=.ok (.tuple #[a,.bool true]) w:=by kernel_rfl
@[go_sem] theorem AjY (a:TypeId) (b:Value) (w:World) (h:a≠264):(Instr.typeAssert (.iface a b) 225 264 true).run prog w=.ok (.tuple #[.agg #[.nilIface,.nilIface,.nilIface],.bool false]) w:=FV h (by kernel_rfl) (by kernel_rfl)
@[go_sem] theorem Akj (w:World):(Instr.typeAssert .nilIface 225 267 true).run prog w=.ok (.tuple #[.agg #[.nilIface,.nilIface],.bool false]) w:=by kernel_rfl
@[go_sem] theorem Akl (a:Value) (w:World):(Instr.typeAssert (.iface 267 a) 225 267 true).run prog w=.ok (.tuple #[a,.bool true]) w:=by kernel_rfl
@[go_sem] theorem Akk (a:TypeId) (b:Value) (w:World) (h:a≠267):(Instr.typeAssert (.iface a b) 225 267 true).run prog w=.ok (.tuple #[.agg #[.nilIface,.nilIface],.bool false]) w:=FV h (by kernel_rfl) (by kernel_rfl)
@[go_sem] theorem AjI (w:World):(Instr.typeAssert .nilIface 225 248 true).run prog w=.ok (.tuple #[.agg #[Aw],.bool false]) w:=by kernel_rfl
@[go_sem] theorem AjK (a:Value) (w:World):(Instr.typeAssert (.iface 248 a) 225 248 true).run prog w=.ok (.tuple #[a,.bool true]) w:=by kernel_rfl
@[go_sem] theorem AjJ (a:TypeId) (b:Value) (w:World) (h:a≠248):(Instr.typeAssert (.iface a b) 225 248 true).run prog w=.ok (.tuple #[.agg #[Aw],.bool false]) w:=FV h (by kernel_rfl) (by kernel_rfl)
@[go_sem] theorem Akm (w:World):(Instr.typeAssert .nilIface 225 270 true).run prog w=.ok (.tuple #[.agg #[.nilIface],.bool false]) w:=by kernel_rfl
@[go_sem] theorem Ako (a:Value) (w:World):(Instr.typeAssert (.iface 270 a) 225 270 true).run prog w=.ok (.tuple #[a,.bool true]) w:=by kernel_rfl
@[go_sem] theorem Akn (a:TypeId) (b:Value) (w:World) (h:a≠270):(Instr.typeAssert (.iface a b) 225 270 true).run prog w=.ok (.tuple #[.agg #[.nilIface],.bool false]) w:=FV h (by kernel_rfl) (by kernel_rfl)
@[go_sem] theorem Aj7 (w:World):(Instr.typeAssert .nilIface 225 271 true).run prog w=.ok (.tuple #[.agg #[.string ByteArray.empty,Aa 0],.bool false]) w:=by kernel_rfl
@[go_sem] theorem Aj9 (a:Value) (w:World):(Instr.typeAssert (.iface 271 a) 225 271 true).run prog w=.ok (.tuple #[a,.bool true]) w:=by kernel_rfl
@[go_sem] theorem Aj8 (a:TypeId) (b:Value) (w:World) (h:a≠271):(Instr.typeAssert (.iface a b) 225 271 true).run prog w=.ok (.tuple #[.agg #[.string ByteArray.empty,Aa 0],.bool false]) w:=FV h (by kernel_rfl) (by kernel_rfl)
@[go_sem] theorem Akd (w:World):(Instr.typeAssert .nilIface 175 212 true).run prog w=.ok (.tuple #[.agg #[.string ByteArray.empty,Aa 0],.bool false]) w:=by kernel_rfl
@[go_sem] theorem Akf (a:Value) (w:World):(Instr.typeAssert (.iface 212 a) 175 212 true).run prog w=.ok (.tuple #[a,.bool true]) w:=by kernel_rfl
@[go_sem] theorem Ake (a:TypeId) (b:Value) (w:World) (h:a≠212):(Instr.typeAssert (.iface a b) 175 212 true).run prog w=.ok (.tuple #[.agg #[.string ByteArray.empty,Aa 0],.bool false]) w:=FV h (by kernel_rfl) (by kernel_rfl)
@[go_sem] theorem Ajw (w:World):(Instr.typeAssert .nilIface 175 215 true).run prog w=.ok (.tuple #[.agg #[.string ByteArray.empty,Aa 0,Aa 0,Aa 0],.bool false]) w:=by kernel_rfl
@[go_sem] theorem Ajy (a:Value) (w:World):(Instr.typeAssert (.iface 215 a) 175 215 true).run prog w=.ok (.tuple #[a,.bool true]) w:=by kernel_rfl
@[go_sem] theorem Ajx (a:TypeId) (b:Value) (w:World) (h:a≠215):(Instr.typeAssert (.iface a b) 175 215 true).run prog w=.ok (.tuple #[.agg #[.string ByteArray.empty,Aa 0,Aa 0,Aa 0],.bool false]) w:=FV h (by kernel_rfl) (by kernel_rfl)
@[go_sem] theorem Aj4 (w:World):(Instr.typeAssert .nilIface 175 220 true).run prog w=.ok (.tuple #[.agg #[.string ByteArray.empty,Aa 0,Aw,Aw,Aw],.bool false]) w:=by kernel_rfl
@[go_sem] theorem Aj6 (a:Value) (w:World):(Instr.typeAssert (.iface 220 a) 175 220 true).run prog w=.ok (.tuple #[a,.bool true]) w:=by kernel_rfl
@[go_sem] theorem Aj5 (a:TypeId) (b:Value) (w:World) (h:a≠220):(Instr.typeAssert (.iface a b) 175 220 true).run prog w=.ok (.tuple #[.agg #[.string ByteArray.empty,Aa 0,Aw,Aw,Aw],.bool false]) w:=FV h (by kernel_rfl) (by kernel_rfl)
@[go_sem] theorem AjU (w:World):(Instr.typeAssert .nilIface 175 222 true).run prog w=.ok (.tuple #[.agg #[.string ByteArray.empty,Aa 0,Aw,Aw,Aw],.bool false]) w:=by kernel_rfl
@[go_sem] theorem AjW (a:Value) (w:World):(Instr.typeAssert (.iface 222 a) 175 222 true).run prog w=.ok (.tuple #[a,.bool true]) w:=by kernel_rfl
@[go_sem] theorem AjV (a:TypeId) (b:Value) (w:World) (h:a≠222):(Instr.typeAssert (.iface a b) 175 222 true).run prog w=.ok (.tuple #[.agg #[.string ByteArray.empty,Aa 0,Aw,Aw,Aw],.bool false]) w:=FV h (by kernel_rfl) (by kernel_rfl)
def KA(T:List Az){α:Type}(f:PS->α×PS):Prop:= ∀s,Av T s->(f s).2.code=0->(f s).2.at_=s.at_
section
variable{T:List Az}
theorem Fl{a:Nat}{s:PS}(b:a≠0)(h:(AI T a s).code=0):False:=by
 unfold AI at h;simp only at h;split at h
 ·exact b h
 ·rename_i hz;exact hz h
theorem K1{f:Af}{s:PS}(h:(Am T f s).code=0):(Am T f s).at_=s.at_:=by obtain⟨_,_,a⟩:=Bs h;rw[a];rfl
theorem SU:KA T (Ap T):=fun s _ h=>by obtain⟨_,_,a⟩:=Ko h;rw[a];rfl
theorem WV:KA T (BV T):=fun s _ h=>by obtain⟨_,a⟩:=Nj h;rw[a];rfl
variable(O:AR T)
include O
theorem WM{X:AU}(I:KA T X)(Y:SM T X){a:List Af}(b: ∀f∈a,f.toList≠[]): ∀(n:Nat)(l:Ex)(s:PS),Av T s->(Bi T X a n l s).2.code=0->(Bi T X a n l s).2.at_=s.at_
 |0,l,s,U,h=>rfl
 |n+1,l,s,U,h=>by
  rw[Bi] at h⊢;split at h
  ·rename_i hz;rw[Ag hz];have d:=GK O U b hz;have c:Av T (Ab s):=A4 d;have h1:=Y _ c;rw[WM I Y b n _ _ h1.1 h,I _ c (JC O Y b h1.1 h)];rfl
  ·rename_i hz;rw[Ae hz]
section
variable{X:AU}(I:KA T X)(Y:SM T X)
include I Y
theorem P3{a:List Af}(b: ∀f∈a,f.toList≠[]):KA T (BU T X a):=fun s U h=>by have h1:=Y s U;have h':(Bi T X a T.length (X s).1 (X s).2).2.code=0:=h;show(Bi T X a T.length (X s).1 (X s).2).2.at_=_;rw[WM O I Y b _ _ _ h1.1 h',I s U (JC O Y b h1.1 h')]
theorem AdF:KA T (DM T X):=fun s U h=>by
 unfold DM at h⊢;split at h
 ·rename_i hz;rw[Ag hz];have h1:=Y s U;have a:=GK O h1.1 BG.2.2.1 hz;show(X (Ab (X s).2)).2.at_=_;rw[I _ (A4 a) h];show(X s).2.at_=_;exact I s U a
 ·rename_i hz;rw[Ae hz];exact I s U h
theorem WN:KA T (EA T X):=by have a:KA T (Jr T X):=P3 O I Y BG.1;have b:KA T (Fq T X):=P3 O a (Kw O Y) BG.2.1;have c:KA T (Hi T X):=AdF O b (Lj O Y);have d:KA T (I5 T X):=P3 O c (Kx O Y) BG.2.2.2.1;exact P3 O d (Ku O Y) BG.2.2.2.2
end
theorem WK{X:AU}(I:KA T X)(Y:SM T X): ∀(n:Nat)(l:List Ex)(s:PS),Av T s->(Bj T X n l s).2.code=0->(Bj T X n l s).2.at_=s.at_
 |0,l,s,U,h=>rfl
 |n+1,l,s,U,h=>by
  rw[Bj] at h⊢;split at h
  ·rename_i hz;rw[Ag hz];have b:=Cp O U Ai hz;have a:Av T (Ab s):=A4 b;have h1:=Y _ a;rw[WK I Y n _ _ h1.1 h,I _ a (Iy O Y h1.1 h)];rfl
  ·rename_i hz;rw[Ae hz]
theorem WL{X:AU}(I:KA T X)(Y:SM T X):KA T (Ba T X):=fun s U h=>by
 unfold Ba at h⊢;split at h
 ·rename_i hz;rw[Ag hz];rfl
 ·rename_i hz;rw[Ae hz];have h1:=Y s U;have h':(Am T AJ (Bj T X T.length [(X s).1] (X s).2).2).code=0:=h;have c1:=(Bs h').1;show(Am T AJ (Bj T X T.length [(X s).1] (X s).2).2).at_=_;rw[K1 h',WK O I Y _ _ _ h1.1 c1,I s U (Iy O Y h1.1 c1)]
omit O in
theorem WP{X:AU}(I:KA T X):KA T (Cg T X):=fun s U h=>by have h':(Am T Cn (X s).2).code=0:=h;show(Am T Cn (X s).2).at_=_;rw[K1 h',I s U (Bs h').1]
omit O in
theorem Pa{m:Option Ao}{s0 s:PS}{k:Nat}(h:(Cs T m s0 k s).code=0):Cs T m s0 k s=s:=by
 unfold Cs at*;split
 ·rfl
 ·simp only at h;split
  ·rfl
  ·rename_i hz;rw[Ae hz] at h;simp[stop] at h
omit O in
theorem Vj{m:Option Ao}{s0 s:PS}{k:Nat}(h:(Fb T m s0 k s).code=0):Fb T m s0 k s=s:=by
 unfold Fb at*;split
 ·rfl
 ·simp only at h;split
  ·rename_i hz;rw[Ag hz] at h;split
   ·rfl
   ·rename_i hy;rw[Ae hy] at h;simp[stop] at h
  ·rename_i hz;rw[Ae hz] at h;simp[stop] at h
omit O in
theorem Abb{m:Option Ao}{s0 s:PS}(h:(FK T m s0 s).code=0):FK T m s0 s=s:=by
 unfold FK at*;split
 ·rfl
 ·simp only at h;split
  ·rfl
  ·rename_i hz;rw[Ae hz] at h;exact Pa h
theorem AdD(m:Option Ao){X:AU}(I:KA T X)(Y:SM T X){s:PS}(b:s.code=0)(h:(Do T m X s).2.code=0):(Do T m X s).2.at_=s.at_:=by
 have a:Av T (Ab (Ab s)):=fun h=>absurd b h;unfold Do at h⊢;split at h
 ·rename_i h1;rw[Ag h1];have U:=OY (T:=T) m s 3 a;have c1:=Eu (Li O Y) U h;show(Ba T X _).2.at_=_;rw[WL O I Y _ U h,Vj c1];rfl
 ·rename_i h1;rw[Ae h1];split at h
  ·rename_i h2;rw[Ag h2];have U:=KB (T:=T) m s 1 a;have c1:=Eu (JY O Y) U h;show(Cg T X _).2.at_=_;rw[WP I _ U h,Pa c1];rfl
  ·rename_i h2;rw[Ae h2];show(Cs T m s 0 (Ab s)).at_=_;rw[Pa h];rfl
theorem WO(m:Option Ao): ∀k,KA T (Bk T m k)
 |0=>fun s U h=>(Fl (by decide) h).elim
 |k+1=>fun s U h=>by
  have b:=WO m k;have Y:=Fi O m k;have c:=WN O b Y;have d:=Eu (Fi O m (k+1)) U h;have a:Av T (Ab s):=A4 d;rw[Bk] at h⊢;split at h
  ·rename_i h1;rw[Ag h1];exact WV s U h
  ·rename_i h1;rw[Ae h1];split at h
   ·rename_i h2;rw[Ag h2];exact AdD O m c (JX O Y) d h
   ·rename_i h2;rw[Ae h2];split at h
    ·rename_i h3;rw[Ag h3];show(Am T AJ _).at_=_;rw[K1 h,c _ a (Bs h).1];rfl
    ·rename_i h3;rw[Ae h3];split at h
     ·rename_i h4;rw[Ag h4];show(Bk T m k (Ab s)).2.at_=_;rw[b _ a h];rfl
     ·rename_i h4;rw[Ae h4];split at h
      ·rename_i e;rw[Ag e];show(Bk T m k (Ab s)).2.at_=_;rw[b _ a h];rfl
      ·exact(Fl (by decide) h).elim
theorem AdC(m:Option Ao)(k:Nat):KA T (BA T m k):=WN O (WO O m k) (Fi O m k)
theorem AdE(m:Option Ao){A:AU}(I:KA T A)(Y:SM T A){s:PS}(d:s.code=0)(h:(DE T m A s).2.code=0):(DE T m A s).2.at_=s.at_:=by
 have a:Av T (Ab (Ab s)):=fun h=>absurd d h;unfold DE at h⊢;split at h
 ·rename_i h1;rw[Ag h1];have U:=OY (T:=T) m s 2 a;have c1:=Eu (Li O Y) U h;show(Ba T A _).2.at_=_;rw[WL O I Y _ U h,Vj c1];rfl
 ·rename_i h1;rw[Ae h1];split at h
  ·rename_i h2;rw[Ag h2];have U:=KB (T:=T) m s 1 a;have e:=(JY O Y _ U).1;have b:=(Dq O (f:=BK) Ai e).1;have c1:=Eu Y b h;have c2:=(Bs c1).1;have c:=Eu (JY O Y) U c2;show(A _).2.at_=_;rw[I _ b h,K1 c1,WP I _ U c2,Pa c];rfl
  ·rename_i h2;rw[Ae h2];split at h
   ·rename_i h3;rw[Ag h3];have U:=T6 (T:=T) m s a;have c1:=Eu Y U h;show(A _).2.at_=_;rw[I _ U h,Abb c1];rfl
   ·have c1:=Eu Y (EL 4 (Ab s)) h;exact(Fl (by decide) c1).elim
section
variable{A:AU}(I:KA T A)(Y:SM T A){st:PS->St×PS}(D:KA T st)(J:SM T st)
include I Y D J
theorem AdB:KA T (Dk T A st):=fun s U h=>by
 have c:=Y s U;have b:=Dq O (f:=Bu) Ai c.1;have d:=J _ b.1;have key:(st (Am T Bu (A s).2)).2.code=0->(st (Am T Bu (A s).2)).2.at_=s.at_:=fun a=>by have c2:=Eu J b.1 a;rw[D _ b.1 a,K1 c2,I s U (Bs c2).1]
 unfold Dk at h⊢;split at h
 ·rename_i hz;rw[Ag hz];have a:=Cp O d.1 Ai hz;show(st (Ab _)).2.at_=_;rw[D _ (A4 a) h];exact key a
 ·rename_i hz;rw[Ae hz];exact key h
theorem AdG:KA T (F6 T A st):=fun s U h=>by have c:=Y s U;have b:=Dq O (f:=Eh) Ai c.1;have a:(st (Am T Eh (A s).2)).2.code=0:=h;have c2:=Eu J b.1 a;show(st (Am T Eh (A s).2)).2.at_=_;rw[D _ b.1 a,K1 c2,I s U (Bs c2).1]
end
omit O in
theorem WU{st:PS->St×PS}(D:KA T st):KA T (A7 T st):=fun s U h=>by
 unfold A7 at h⊢;split at h
 ·rename_i hz;rw[Ag hz]
 ·rename_i hz;rw[Ae hz];exact D s U h
theorem WR{st:PS->St×PS}(D:KA T st)(J:SM T st): ∀(n:Nat)(l:List St)(s:PS),Av T s->(BQ T st n l s).2.code=0->(BQ T st n l s).2.at_=s.at_
 |0,l,s,U,h=>rfl
 |n+1,l,s,U,h=>by
  rw[Nc] at h⊢;have a:=OT J s U;split at h
  ·rename_i hz;rw[Ag hz];have c1:=Cp O a.1 Ai hz;rw[WR D J n _ _ (A4 c1) h];show(A7 T st s).2.at_=_;exact WU D s U c1
  ·rename_i hz;rw[Ae hz];exact WU D s U h
theorem WT{st:PS->St×PS}(D:KA T st)(J:SM T st):KA T (AK T st):=fun s U h=>WR O D J T.length [] s U h
theorem WW(m:Option Ao): ∀k,KA T (AL T m k)
 |0=>fun s U h=>(Fl (by decide) h).elim
 |k+1=>fun s U h=>by
  have d:=WW m k;have J:=Ev O m k;have I:=AdC O m k;have Y:=Hy O m k;have e:=Eu (Ev O m (k+1)) U h;have b:Av T (Ab s):=A4 e;rw[AL] at h⊢;split at h
  ·rename_i h1;rw[Ag h1];exact AdE O m I Y e h
  ·rename_i h1;rw[Ae h1];split at h
   ·rename_i h2;rw[Ag h2,AdB O I Y d J _ b h];rfl
   ·rename_i h2;rw[Ae h2];split at h
    ·rename_i h3;rw[Ag h3,AdG O I Y d J _ b h];rfl
    ·rename_i h3;rw[Ae h3];split at h
     ·rename_i h4;rw[Ag h4];show(Am T By _).at_=_;rw[K1 h,WT O d J _ b (Bs h).1];rfl
     ·rename_i h4;rw[Ae h4];split at h
      ·rename_i c;rw[Ag c];show(BA T m k (Ab s)).2.at_=_;rw[I _ b h];rfl
      ·rename_i c;rw[Ae c];split at h
       ·rename_i f;rw[Ag f];have a:(Ea T m (Ab s)).code=0:=h;show(Ea T m (Ab s)).at_=_;unfold Ea at a⊢;split at a
        ·rename_i g;rw[Ag g,Pa a];rfl
        ·exact(Fl (by decide) a).elim
       ·exact(Fl (by decide) h).elim
theorem WQ(m:Option Ao):KA T (AK T (AL T m 14)):=WT O (WW O m 14) (Ev O m 14)
end
section
variable{T:List Az}
def KP(s a:PS):Prop:=a.code=0->a.at_=s.at_
theorem KP.refl(s:PS):KP s s:=fun _=>rfl
theorem KP.trans{s b a:PS}(h1:KP s b)(h2:KP b a)(d:CZ T b a):KP s a:=fun c=>(h2 c).trans (h1 (d.code c))
theorem LN(s:PS):KP s (Ab s):=fun _=>rfl
theorem Jc(f:Af)(s:PS):KP s (Am T f s):=fun h=>K1 h
theorem P7(m:Option Ao)(a:Bool)(s0:PS)(kind args:Nat)(s:PS):KP s (BM T m a s0 kind args s).2:=fun h=>by rw[Oc h]
theorem AdS(m:Option Ao)(s0 s:PS):KP s (Hf T m s0 s):=fun h=>by
 unfold Hf at*;split
 ·rfl
 ·simp only at h;split
  ·rename_i hz;rw[Ag hz] at h;simp[stop] at h
  ·rfl
theorem AdN(m:Option Ao)(s0:PS)(n:Nat)(s:PS):KP s (FC T m s0 n s):=fun h=>by
 unfold FC at*;split
 ·rfl
 ·simp only at h;split
  ·rename_i hz;rw[Ag hz] at h;simp[stop] at h
  ·rfl
variable(O:AR T)
include O
omit O in
theorem MX{α:Type}{f:PS->α×PS}(I:KA T f){s:PS}(U:Av T s):KP s (f s).2:=fun h=>I s U h
theorem W6(m:Option Ao){s:PS}(V:An T s)(U:Av T s):KP s (C2 T m s).2:=by
 have h1:=EY O V U;have b:KP s (Ap T s).2:=MX SU U;unfold C2;split
 ·rename_i h;have h2:=Fz O Ai h1.good h1.stk h;have h3:=On O h2.good h2.stk;have h4:=Gg O m false s 1 0 h3.good h3.stk;have a:=PU O m (Ab (Ap T s).2) h4.good h4.stk;have c:=B4 O (f:=Cn) Ai a.good a.stk;exact((((b.trans (LN _) h2).trans (MX WV h2.stk) h3).trans (P7 m false s 1 0 _) h4).trans (AdS m _ _) a).trans (Jc _ _) c
 ·exact b.trans (P7 m false s 0 0 _) (Gg O m false s 0 0 h1.good h1.stk)
theorem W7: ∀(n:Nat)(m:Option Ao)(s:PS),An T s->Av T s->KP s (ED T n m s).2
 |0,m,s,V,U=>.refl s
 |n+1,m,s,V,U=>by
  rw[ED];split
  ·rename_i h;have h1:=Fz O Ai V U h;have h2:=KY O m h1.good h1.stk;exact((LN s).trans (W6 O m h1.good h1.stk) h2).trans (W7 n _ _ h2.good h2.stk) (LH O n _ _ h2.good h2.stk)
  ·exact .refl s
section
variable(m:Option Ao){s:PS}(V:An T s)(U:Av T s)
include m V U
theorem AdM:KP s (EH T m s).2:=by have h1:=KY O m V U;have h2:=LH O T.length (C2 T m s).1 _ h1.good h1.stk;have h3:=B4 O (f:=AQ) Ai h2.good h2.stk;exact((W6 O m V U).trans (W7 O _ _ _ h1.good h1.stk) h2).trans (Jc _ _) h3
theorem W9:KP s (DX T m s).2:=by have h1:=EY O V U;exact KP.trans (T:=T) (MX SU U) (P7 m true s 0 0 _) (Gg O m true s 0 0 h1.good h1.stk)
end
theorem WZ: ∀(n:Nat)(m:Option Ao)(s:PS),An T s->Av T s->KP s (EC T n m s).2
 |0,m,s,V,U=>.refl s
 |n+1,m,s,V,U=>by
  rw[EC];split
  ·rename_i h;have h1:=Fz O Ai V U h;have h2:=MQ O m h1.good h1.stk;exact((LN s).trans (W9 O m h1.good h1.stk) h2).trans (WZ n _ _ h2.good h2.stk) (KX O n _ _ h2.good h2.stk)
  ·exact .refl s
section
variable(m:Option Ao){s:PS}(V:An T s)(U:Av T s)
include m V U
theorem W0:KP s (C1 T m s).2:=by have h1:=MQ O m V U;exact(W9 O m V U).trans (WZ O _ _ _ h1.good h1.stk) (KX O T.length (DX T m s).1 _ h1.good h1.stk)
theorem AdP:KP s (Hx T m s).2:=by
 unfold Hx;split
 ·exact .refl s
 ·exact W0 O m V U
end
theorem W8: ∀(n:Nat)(m:Option Ao)(s:PS),An T s->Av T s->KP s (Et T n m s).2
 |0,m,s,V,U=>.refl s
 |n+1,m,s,V,U=>by
  rw[Et];split
  ·rename_i h;have h1:=Fz O Ai V U h;have h2:=JI O m h1.good h1.stk;have h3:=B4 O (f:=AQ) Ai h2.good h2.stk;exact(((LN s).trans (W0 O m h1.good h1.stk) h2).trans (Jc _ _) h3).trans (W8 n _ _ h3.good h3.stk) (Ja O n _ _ h3.good h3.stk)
  ·exact .refl s
theorem AdO{s:PS}(V:An T s)(U:Av T s):KP s (Bn T s):=by have h1:=EY O V U;exact KP.trans (T:=T) (MX SU U) (Jc _ _) (B4 O Ai h1.good h1.stk)
section
variable(m:Option Ao)(kind:Nat){s:PS}(V:An T s)(U:Av T s)
include m kind V U
theorem AdR:KP s (DS T m kind s).2:=by have h1:=IC O V U;have h2:=Gg O m false s kind (DB T (Bn T s)) h1.good h1.stk;have h3:=Om O m s (DB T (Bn T s)) h2.good h2.stk;have h4:=LI O (DZ T m kind s).1 h3.good h3.stk;have a:=B4 O (f:=AJ) Ai h4.good h4.stk;have b:=Ja O T.length (EJ T m kind s).1 _ a.good a.stk;exact(((((AdO O V U).trans (P7 m false s kind _ _) h2).trans (AdN m s _ _) h3).trans (AdP O _ h3.good h3.stk) h4).trans (Jc _ _) a).trans (W8 O _ _ _ a.good a.stk) b
theorem Xa:KP s (CO T m kind s).2:=by have h1:=PT O m kind V U;have h2:=B4 O (f:=Bc) Ai h1.good h1.stk;have h3:=GN O ((DS T m kind s).1.map Ao.enter) 14 h2.good h2.stk;have h4:=B4 O (f:=By) Ai h3.good h3.stk;have a:=B4 O (f:=AQ) Ai h4.good h4.stk;exact((((AdR O m kind V U).trans (Jc _ _) h2).trans (MX (WQ O _) h2.stk) h3).trans (Jc _ _) h4).trans (Jc _ _) a
end
theorem P8: ∀(n:Nat)(m:Option Ao)(s:PS),An T s->Av T s->KP s (D6 T n m s).2
 |0,m,s,V,U=>.refl s
 |n+1,m,s,V,U=>by
  rw[D6];split
  ·rename_i h;have h1:=Fz O Ai V U h;have h2:=Ol O m h1.good h1.stk;exact((LN s).trans (AdM O m h1.good h1.stk) h2).trans (P8 n _ _ h2.good h2.stk) (I9 O n _ _ h2.good h2.stk)
  ·split
   ·rename_i h;have h1:=Fz O Ai V U h;have h2:=LJ O m 2 h1.good h1.stk;exact((LN s).trans (Xa O m 2 h1.good h1.stk) h2).trans (P8 n _ _ h2.good h2.stk) (I9 O n _ _ h2.good h2.stk)
   ·split
    ·rename_i h;have h1:=Fz O Ai V U h;have h2:=LJ O m 3 h1.good h1.stk;exact((LN s).trans (Xa O m 3 h1.good h1.stk) h2).trans (P8 n _ _ h2.good h2.stk) (I9 O n _ _ h2.good h2.stk)
    ·exact .refl s
theorem AdQ(m:Option Ao){s:PS}(V:An T s)(U:Av T s)(h:(ES T m s).code=0):(ES T m s).at_=s.at_:=by
 have h1:=I9 O T.length m s V U;have h2:=B4 O (f:=Bc) Ai h1.good h1.stk;have h3:=GN O (D6 T T.length m s).1 14 h2.good h2.stk;have h4:=B4 O (f:=By) Ai h3.good h3.stk;have a:=B4 O (f:=DR) Ai h4.good h4.stk;have k:=((((P8 O _ m s V U).trans (Jc _ _) h2).trans (MX (WQ O _) h2.stk) h3).trans (Jc _ _) h4).trans (Jc _ _) a;have h':(Dm T (Am T DR (Jg T (LG T m s).1 (LG T m s).2))).code=0:=h;show(Dm T (Am T DR (Jg T (LG T m s).1 (LG T m s).2))).at_=_;unfold Dm at h'⊢;split at h'
 ·rename_i hz;rw[Ag hz];exact k h'
 ·exact(Fl (by decide) h').elim
end
def DH(n:Af):Prop:=n.toList≠[]/\n.size<=600
mutual
def BX:Ex->Prop
 |.nil=>True
 |.num _=>True
 |.var n _=>DH n
 |.elem n _ b=>DH n/\BX b
 |.call n _ args=>DH n/\args.length<=602/\EO args
 |.bin _ l c=>BX l/\BX c
 |.un _ a=>BX a
def EO:List Ex->Prop
 |[]=>True
 |a::l=>BX a/\EO l
end
mutual
def Dc:St->Prop
 |.nil=>True
 |.assign n _ a=>DH n/\BX a
 |.put n _ d a=>DH n/\BX d/\BX a
 |.proc n _ args=>DH n/\args.length<=602/\EO args
 |.ite b e f=>BX b/\Dc e/\Dc f
 |.loop b c=>BX b/\Dc c
 |.block l=>l.length<=602/\Ep l
 |.write a=>BX a
 |.read n _=>DH n
def Ep:List St->Prop
 |[]=>True
 |a::l=>Dc a/\Ep l
end
def GA(l:List A8):Prop:= ∀a∈l,DH a.1
structure Ms(r:Ro):Prop where
 name:DH r.name.1
 params:GA r.params
 locals:GA r.locals
 body:r.body.length<=602/\Ep r.body
def AaP:Gl->Prop
 |.var n _=>DH n
 |.arr n _ _ _=>DH n
 |.proc a=>Ms a
 |.func a=>Ms a
theorem Yj{a:Ex}(b:BX a): ∀{l:List Ex},EO l->EO (l++[a])
 |[],_=>by simp only[Hl,EO];exact⟨b,trivial⟩
 |c::l,h=>by rw[EO] at h;show EO (c::(l++[a]));rw[EO];exact⟨h.1,Yj b h.2⟩
theorem TH{k:List St}(a:Ep k): ∀{l:List St},Ep l->Ep (l++k)
 |[],_=>a
 |b::l,h=>by rw[Ep] at h;show Ep (b::(l++k));rw[Ep];exact⟨h.1,TH a h.2⟩
def NT(T:List Az):Prop:=T.length<=601/\ ∀a∈T,a.kind=.name->DH a.text
def OX(T:List Az)(f:AU):Prop:= ∀s,An T s->Av T s->(f s).2.code=0->BX (f s).1
def OS(T:List Az)(f:PS->St×PS):Prop:= ∀s,An T s->Av T s->(f s).2.code=0->Dc (f s).1
section
variable{T:List Az}
theorem Qt(Z:NT T){s:PS}(V:An T s)(a:AN T .name s=true):DH (Ad T s).text:=Z.2 _ (PC V) (by simpa[AN] using a)
theorem OH(Z:NT T){s:PS}(V:An T s)(h:(Ap T s).2.code=0):DH (Ap T s).1.1:=by obtain⟨_,b,a⟩:=Ko h;rw[a];exact Qt Z V b
variable(O:AR T)
include O
theorem Yo{X:AU}(N:OX T X)(K:AM T X)(Y:SM T X){a:List Af}(c: ∀f∈a,f.toList≠[]): ∀(n:Nat)(l:Ex)(s:PS),BX l->An T s->Av T s->(Bi T X a n l s).2.code=0->BX (Bi T X a n l s).1
 |0,l,s,b,V,U,h=>b
 |n+1,l,s,b,V,U,h=>by
  rw[Bi] at h⊢;by_cases hz:CL T a s=true
  ·rw[Ag hz] at h⊢;have g:=GK O U c hz;have e:Av T (Ab s):=A4 g;have d:=JB O c V hz;have h1:=Y _ e;refine Yo N K Y c n _ _ ?_ (K _ d).1 h1.1 h;rw[BX];exact⟨b,N _ d e (JC O Y c h1.1 h)⟩
  ·rw[Ae hz];exact b
section
variable{X:AU}(N:OX T X)(K:AM T X)(Y:SM T X)
include N K Y
theorem Qs{a:List Af}(b: ∀f∈a,f.toList≠[]):OX T (BU T X a):=fun s V U h=>by have h1:=Y s U;have h':(Bi T X a T.length (X s).1 (X s).2).2.code=0:=h;exact Yo O N K Y b _ _ _ (N s V U (JC O Y b h1.1 h')) (K s V).1 h1.1 h'
theorem AfD:OX T (DM T X):=fun s V U h=>by
 unfold DM at h⊢;by_cases hz:CL T C5 (X s).2=true
 ·rw[Ag hz] at h⊢;have h1:=Y s U;have a:=GK O h1.1 BG.2.2.1 hz;have b:=JB O BG.2.2.1 (K s V).1 hz;show BX (.bin _ _ _);rw[BX];exact⟨N s V U a,N _ b (A4 a) h⟩
 ·rw[Ae hz] at h⊢;exact N s V U h
theorem Yp:OX T (EA T X):=by have a:OX T (Jr T X):=Qs O N K Y BG.1;have b:OX T (Fq T X):=Qs O a (Kl O K) (Kw O Y) BG.2.1;have c:OX T (Hi T X):=AfD O b (Kk O K) (Lj O Y);have d:OX T (I5 T X):=Qs O c (Km O K) (Kx O Y) BG.2.2.2.1;exact Qs O d (Ki O K) (Ku O Y) BG.2.2.2.2
end
theorem Yl{X:AU}(N:OX T X)(K:AM T X)(Y:SM T X): ∀(n:Nat)(l:List Ex)(s:PS),EO l->An T s->Av T s->(Bj T X n l s).2.code=0->EO (Bj T X n l s).1
 |0,l,s,a,V,U,h=>a
 |n+1,l,s,a,V,U,h=>by
  rw[Bj] at h⊢;by_cases hz:Aj T Bx s=true
  ·rw[Ag hz] at h⊢;have d:=Cp O U Ai hz;have c:Av T (Ab s):=A4 d;have b:=AD O V hz Ai;have h1:=Y _ c;exact Yl N K Y n _ _ (Yj (N _ b c (Iy O Y h1.1 h)) a) (K _ b).1 h1.1 h
  ·rw[Ae hz];exact a
omit O in
theorem UW(X:AU): ∀(n:Nat)(l:List Ex)(s:PS),(Bj T X n l s).1.length<=l.length+n
 |0,l,s=>AA _
 |n+1,l,s=>by
  rw[Bj];split
  ·have:=UW X n (l++[(X (Ab s)).1]) (X (Ab s)).2;rw[AG] at this;simp only[Bg,Bm] at this;omega
  ·show l.length<=_;omega
section
variable(Z:NT T){X:AU}(N:OX T X)(K:AM T X)(Y:SM T X){s:PS}(V:An T s)
include Z N K Y V
theorem Ym(U:Av T s)(h:(Ba T X s).2.code=0):(Ba T X s).1.length<=602/\EO (Ba T X s).1:=by
 unfold Ba at h⊢;by_cases hz:Aj T AJ s=true
 ·rw[Ag hz];show _/\EO [];rw[EO];exact⟨by simp,trivial⟩
 ·rw[Ae hz] at h⊢;have h1:=Y s U;have h':(Am T AJ (Bj T X T.length [(X s).1] (X s).2).2).code=0:=h;have c1:=(Bs h').1;refine⟨?_,Yl O N K Y _ _ _ ?_ (K s V).1 h1.1 c1⟩
  ·show(Bj T X T.length [(X s).1] (X s).2).1.length<=602;have:=UW (T:=T) X T.length [(X s).1] (X s).2;have a:=Z.1;simp only[Bg,Bm] at this;omega
  rw[EO,EO];exact⟨N s V U (Iy O Y h1.1 c1),trivial⟩
theorem Afz(d:s.code=0)(c:AN T .name s=true)(h:(Do T none X s).2.code=0):BX (Do T none X s).1:=by
 have hn:=Qt Z V c;have b:=EZ O V c (by decide);have a:Av T (Ab (Ab s)):=fun h=>absurd d h;unfold Do at h⊢;by_cases h1:Aj T Bl (Ab s)=true
 ·rw[Ag h1] at h⊢;show BX (.call _ _ _);rw[BX];exact⟨hn,Ym O Z N K Y (AD O b h1 Ai) a h⟩
 ·rw[Ae h1] at h⊢;by_cases h2:Aj T BL (Ab s)=true
  ·rw[Ag h2] at h⊢;show BX (.elem _ _ _);rw[BX];exact⟨hn,N _ (AD O b h2 Ai) a (Bs h).1⟩
  ·rw[Ae h2];show BX (.var _ _);rw[BX];exact hn
end
theorem Yq(Z:NT T): ∀k,OX T (Bk T none k)
 |0=>fun s V U h=>(Fl (by decide) h).elim
 |k+1=>fun s V U h=>by
  have c:=Yq Z k;have K:=Gm O none k;have Y:=Fi O none k;have d:=Yp O c K Y;have e:=Eu (Fi O none (k+1)) U h;have b:Av T (Ab s):=A4 e;rw[Bk] at h⊢;by_cases h1:AN T .number s=true
  ·rw[Ag h1];show BX (.num _);rw[BX];trivial
  ·rw[Ae h1] at h⊢;by_cases h2:AN T .name s=true
   ·rw[Ag h2] at h⊢;exact Afz O Z d (IK O K) (JX O Y) V e h2 h
   ·rw[Ae h2] at h⊢;by_cases h3:Aj T Bl s=true
    ·rw[Ag h3] at h⊢;exact d _ (AD O V h3 Ai) b (Bs h).1
    ·rw[Ae h3] at h⊢;by_cases h4:Aj T FA s=true
     ·rw[Ag h4] at h⊢;show BX (.un _ _);rw[BX];exact c _ (AD O V h4 Ai) b h
     ·rw[Ae h4] at h⊢;by_cases a:Aj T GP s=true
      ·rw[Ag a] at h⊢;show BX (.un _ _);rw[BX];exact c _ (AD O V a Ai) b h
      ·rw[Ae a] at h;exact(Fl (by decide) h).elim
theorem Afx(Z:NT T)(k:Nat):OX T (BA T none k):=Yp O (Yq O Z k) (Gm O none k) (Fi O none k)
theorem AfA(Z:NT T){A:AU}(N:OX T A)(K:AM T A)(Y:SM T A){s:PS}(V:An T s)(f:s.code=0)(d:AN T .name s=true)(h:(DE T none A s).2.code=0):Dc (DE T none A s).1:=by
 have hn:=Qt Z V d;have b:=EZ O V d (by decide);have a:Av T (Ab (Ab s)):=fun h=>absurd f h;unfold DE at h⊢;by_cases h1:Aj T Bl (Ab s)=true
 ·rw[Ag h1] at h⊢;show Dc (.proc _ _ _);rw[Dc];exact⟨hn,Ym O Z N K Y (AD O b h1 Ai) a h⟩
 ·rw[Ae h1] at h⊢;by_cases h2:Aj T BL (Ab s)=true
  ·rw[Ag h2] at h⊢;have c:=AD O b h2 Ai;have j:=(JY O Y _ a).1;have e:=(Dq O (f:=BK) Ai j).1;have c1:=Eu Y e h;have c2:=(Bs c1).1;have g:=(Kj O K _ c).1;have i:=(Ch O (f:=BK) Ai g).1;show Dc (.put _ _ _ _);rw[Dc];exact⟨hn,N _ c a (Bs c2).1,N _ i e h⟩
  ·rw[Ae h2] at h⊢;by_cases h3:Aj T BK (Ab s)=true
   ·rw[Ag h3] at h⊢;show Dc (.assign _ _ _);rw[Dc];exact⟨hn,N _ (AD O b h3 Ai) a h⟩
   ·rw[Ae h3] at h;exact(Fl (by decide) (Eu Y (EL 4 (Ab s)) h)).elim
theorem Yt{st:PS->St×PS}(N:OS T st)(K:AM T st)(Y:SM T st): ∀(n:Nat)(l:List St)(s:PS),Ep l->An T s->Av T s->(BQ T st n l s).2.code=0->Ep (BQ T st n l s).1
 |0,l,s,a,V,U,h=>a
 |n+1,l,s,a,V,U,h=>by
  have one:(A7 T st s).2.code=0->Ep (A7 T st s).1:=fun h1=>by
   unfold A7 at h1⊢;split at h1
   ·rename_i hz;rw[Ag hz];show Ep [];rw[Ep];trivial
   ·rename_i hz;rw[Ae hz];show Ep [_];rw[Ep,Ep];exact⟨N s V U h1,trivial⟩
  rw[Nc] at h⊢;have c:=OT Y s U;have b:=OB K s V;by_cases hz:Aj T AQ (A7 T st s).2=true
  ·rw[Ag hz] at h⊢;have c1:=Cp O c.1 Ai hz;exact Yt N K Y n _ _ (TH (one c1) a) (AD O b.1 hz Ai) (A4 c1) h
  ·rw[Ae hz] at h⊢;exact TH (one h) a
omit O in
theorem Xr(st:PS->St×PS): ∀(n:Nat)(l:List St)(s:PS),(BQ T st n l s).1.length<=l.length+n
 |0,l,s=>AA _
 |n+1,l,s=>by
  have one:(A7 T st s).1.length<=1:=by unfold A7;split<;>simp
  rw[BQ];split
  ·have:=Xr st n (l++(A7 T st s).1) (Ab (A7 T st s).2);rw[AG] at this;omega
  ·show(l++(A7 T st s).1).length<=_;rw[AG];omega
theorem Yu(Z:NT T){st:PS->St×PS}(N:OS T st)(K:AM T st)(Y:SM T st){s:PS}(V:An T s)(U:Av T s)(h:(AK T st s).2.code=0):(AK T st s).1.length<=602/\Ep (AK T st s).1:=
 ⟨by have:=Xr (T:=T) st T.length [] s;have a:=Z.1;simp only[Bm] at this;show(BQ T st T.length [] s).1.length<=602;omega,Yt O N K Y T.length [] s (by rw[Ep];trivial) V U h⟩
theorem Yz(Z:NT T): ∀k,OS T (AL T none k)
 |0=>fun s V U h=>(Fl (by decide) h).elim
 |k+1=>fun s V U h=>by
  have e:=Yz Z k;have p:=Gp O none k;have J:=Ev O none k;have N:=Afx O Z k;have K:=Hw O none k;have Y:=Hy O none k;have q:=Eu (Ev O none (k+1)) U h;have b:Av T (Ab s):=A4 q;rw[AL] at h⊢;by_cases h1:AN T .name s=true
  ·rw[Ag h1] at h⊢;exact AfA O Z N K Y V q h1 h
  ·rw[Ae h1] at h⊢;by_cases h2:Aj T IF s=true
   ·rw[Ag h2] at h⊢;have a:=AD O V h2 Ai;have l:=K _ a;have o:=Y _ b;have f:=Ch O (f:=Bu) Ai l.1;have c:=Dq O (f:=Bu) Ai o.1;have t:=p _ f.1;have u:=J _ c.1;have key:(AL T none k (Am T Bu (BA T none k (Ab s)).2)).2.code=0->BX (BA T none k (Ab s)).1/\Dc (AL T none k (Am T Bu (BA T none k (Ab s)).2)).1:=fun d=>by have c2:=Eu J c.1 d;exact⟨N _ a b (Bs c2).1,e _ f.1 c.1 d⟩
    unfold Dk at h⊢;by_cases hz:Aj T E3 (AL T none k (Am T Bu (BA T none k (Ab s)).2)).2=true
    ·rw[Ag hz] at h⊢;have d:=Cp O u.1 Ai hz;obtain⟨m,n⟩:=key d;show Dc (.ite _ _ _);rw[Dc];exact⟨m,n,e _ (AD O t.1 hz Ai) (A4 d) h⟩
    ·rw[Ae hz] at h⊢;obtain⟨m,n⟩:=key h;show Dc (.ite _ _ .nil);rw[Dc,Dc];exact⟨m,n,trivial⟩
   ·rw[Ae h2] at h⊢;by_cases h3:Aj T IH s=true
    ·rw[Ag h3] at h⊢;have a:=AD O V h3 Ai;have l:=K _ a;have o:=Y _ b;have f:=Ch O (f:=Eh) Ai l.1;have c:=Dq O (f:=Eh) Ai o.1;have c2:=Eu J c.1 h;show Dc (.loop _ _);rw[Dc];exact⟨N _ a b (Bs c2).1,e _ f.1 c.1 h⟩
    ·rw[Ae h3] at h⊢;by_cases h4:Aj T Bc s=true
     ·rw[Ag h4] at h⊢;show Dc (.block _);rw[Dc];exact Yu O Z e p J (AD O V h4 Ai) b (Bs h).1
     ·rw[Ae h4] at h⊢;by_cases g:Aj T II s=true
      ·rw[Ag g] at h⊢;show Dc (.write _);rw[Dc];exact N _ (AD O V g Ai) b h
      ·rw[Ae g] at h⊢;by_cases i:Aj T IG s=true
       ·rw[Ag i] at h⊢;have a:=AD O V i Ai;have j:(Ea T none (Ab s)).code=0:=h;show Dc (.read _ _);rw[Dc];unfold Ea at j;split at j
        ·rename_i r;rw[Kn r];exact Qt Z a r
        ·exact(Fl (by decide) j).elim
       ·rw[Ae i] at h;exact(Fl (by decide) h).elim
theorem Yn(Z:NT T){s:PS}(V:An T s)(U:Av T s)(h:(AK T (AL T none 14) s).2.code=0):(AK T (AL T none 14) s).1.length<=602/\Ep (AK T (AL T none 14) s).1:=
 Yu O Z (Yz O Z 14) (Gp O none 14) (Ev O none 14) V U h
end
def Up(T:List Az):Gl->Prop
 |.proc a=>a.params.length+a.locals.length<=T.length
 |.func a=>a.params.length+a.locals.length<=T.length
 |_=>True
def KK(T:List Az)(a:Gl):Prop:=AaP a/\Up T a
structure Pm(T:List Az)(p:Pr):Prop where
 globals: ∀g∈p.globals,KK T g
 len:p.globals.length<=T.length
 body:p.body.length<=602/\Ep p.body
section
variable{T:List Az}(O:AR T)(Z:NT T)
include O Z
omit O in
theorem Yr{s:PS}(V:An T s)(h:(AE T s).2.code=0):KK T (AE T s).1:=by
 unfold AE at h⊢;by_cases hb:Aj T BL (Ap T s).2=true
 ·rw[Ag hb] at h⊢;have c1:=(Bs h).1;have c2:=(Nj c1).1;exact⟨OH Z V (show(Ap T s).2.code=0 from c2),trivial⟩
 ·rw[Ae hb] at h⊢;exact⟨OH Z V h,trivial⟩
omit Z in
theorem WC{s:PS}(V:An T s)(U:Av T s)(h:(AE T s).2.code=0):s.next+1<=(AE T s).2.next:=by
 have h1:=EY O V U;unfold AE at h⊢;by_cases hb:Aj T BL (Ap T s).2=true
 ·rw[Ag hb] at h⊢;have h2:=Fz O Ai h1.good h1.stk hb;have h3:=On O h2.good h2.stk;have h4:=B4 O (f:=Cn) Ai h3.good h3.stk;have c1:=(Bs h).1;have c2:=(Nj c1).1;have hn:=IM O (show(Ap T s).2.code=0 from c2) U;show s.next+1<=(Am T Cn (BV T (Ab (Ap T s).2)).2).next
  have:=h2.le;have:=h3.le;have:=h4.le;omega
 ·rw[Ae hb] at h⊢;show s.next+1<=(Ap T s).2.next
  rw[IM O h U];exact AA _
theorem Ys: ∀(n:Nat)(a:List Gl)(s:PS),(∀b∈a,KK T b)->An T s->s.code=0->(Bw T n a s).2.code=0->(∀b∈(Bw T n a s).1,KK T b)/\(Bw T n a s).1.length+s.next<=a.length+(Bw T n a s).2.next
 |0,a,s,c,V,f,h=>⟨c,AA _⟩
 |n+1,a,s,c,V,f,h=>by
  rw[Bw] at h⊢;by_cases U:Aj T Bx s=true
  ·rw[Ag U] at h⊢;have e:=AD O V U Ai;have g:Av T (Ab s):=A4 f;have d:=MP O e g;have c1:=MV O d.good d.stk h
   have i:=Ys n (a++[(AE T (Ab s)).1]) (AE T (Ab s)).2 (fun b j=>by
    rcases BD.1 j with h1|h1
    ·exact c b h1
    ·simp at h1;subst h1;exact Yr Z e c1) d.good c1 h
   have hn:=WC O e g c1;have k:(Ab s).next=s.next+1:=rfl
   refine⟨i.1,?_⟩;have:=i.2;rw[AG] at this;simp only[Bg,Bm] at this;omega
  ·rw[Ae U];exact⟨c,AA _⟩
theorem Afy{s:PS}(V:An T s)(U:Av T s)(h:(BP T s).2.code=0):(∀b∈(BP T s).1,KK T b)/\(BP T s).1.length+s.next<=(BP T s).2.next:=by
 have h':(Am T AQ (Bw T T.length [(AE T s).1] (AE T s).2).2).code=0:=h;have c1:=(Bs h').1;have a:=MP O V U;have c2:=MV O a.good a.stk c1;have d:=Ys O Z T.length [(AE T s).1] (AE T s).2 (fun b c=>by simp at c;subst c;exact Yr Z V c2) a.good c2 c1;have hn:=WC O V U c2;refine⟨d.1,?_⟩;have h2:=d.2;show(Bw T T.length [(AE T s).1] (AE T s).2).1.length+s.next<=(Am T AQ (Bw T T.length [(AE T s).1] (AE T s).2).2).next
 rw[(Bs h').2.2];show _<=(Bw T T.length [(AE T s).1] (AE T s).2).2.next+1
 simp only[Bg,Bm] at h2;omega
theorem Yw: ∀(n:Nat)(a:List A8)(s:PS),GA a->An T s->s.code=0->(Bp T n a s).2.code=0->GA (Bp T n a s).1/\(Bp T n a s).1.length+s.next<=a.length+(Bp T n a s).2.next
 |0,a,s,b,V,d,h=>⟨b,AA _⟩
 |n+1,a,s,b,V,d,h=>by
  rw[Bp] at h⊢;by_cases U:Aj T Bx s=true
  ·rw[Ag U] at h⊢;have e:=AD O V U Ai;have f:Av T (Ab s):=A4 d;have c:=EY O e f;have c1:=K8 O c.good c.stk h
   have g:=Yw n (a++[(Ap T (Ab s)).1]) (Ap T (Ab s)).2 (fun j i=>by
    rcases BD.1 i with h1|h1
    ·exact b j h1
    ·simp at h1;subst h1;exact OH Z e c1) c.good c1 h
   have hn:=IM O c1 f;have k:(Ab s).next=s.next+1:=rfl
   refine⟨g.1,?_⟩;have:=g.2;rw[AG] at this;simp only[Bg,Bm] at this;omega
  ·rw[Ae U];exact⟨b,AA _⟩
theorem Yx{s:PS}(V:An T s)(U:Av T s)(h:(Bf T s).2.code=0):GA (Bf T s).1/\(Bf T s).1.length+s.next<=(Bf T s).2.next:=by
 have a:=EY O V U;have h':(Bp T T.length [(Ap T s).1] (Ap T s).2).2.code=0:=h;have c2:=K8 O a.good a.stk h';have c:=Yw O Z T.length [(Ap T s).1] (Ap T s).2 (fun d b=>by simp at b;subst b;exact OH Z V c2) a.good c2 h';have hn:=IM O c2 U;refine⟨c.1,?_⟩;have h2:=c.2;show(Bp T T.length [(Ap T s).1] (Ap T s).2).1.length+s.next<=(Bp T T.length [(Ap T s).1] (Ap T s).2).2.next
 simp only[Bg,Bm] at h2;omega
theorem AfB{s:PS}(V:An T s)(U:Av T s)(h:(Cz T s).2.code=0):GA (Cz T s).1/\(Cz T s).1.length+s.next<=(Cz T s).2.next:=by
 unfold Cz at h⊢;by_cases hz:Aj T AJ s=true
 ·rw[Ag hz];exact⟨fun b a=>by simp at a,by simp⟩
 ·rw[Ae hz] at h⊢;exact Yx O Z V U h
theorem Yv: ∀(n:Nat)(a:List A8)(s:PS),GA a->An T s->s.code=0->(B5 T n a s).2.code=0->GA (B5 T n a s).1/\(B5 T n a s).1.length+s.next<=a.length+(B5 T n a s).2.next
 |0,a,s,c,V,e,h=>⟨c,AA _⟩
 |n+1,a,s,c,V,e,h=>by
  rw[B5] at h⊢;by_cases U:Aj T CJ s=true
  ·rw[Ag U] at h⊢;have f:=AD O V U Ai;have i:Av T (Ab s):=A4 e;have d:=SE O f i;have b:=B4 O (f:=AQ) Ai d.good d.stk;have c1:=Qd O b.good b.stk h;have c2:=(Bs c1).1;have g:=Yx O Z f i c2
   have j:=Yv n (a++(Bf T (Ab s)).1) (Am T AQ (Bf T (Ab s)).2) (fun k l=>by
    rcases BD.1 l with h1|h1
    ·exact c k h1
    ·exact g.1 k h1) b.good c1 h
   have m:(Ab s).next=s.next+1:=rfl
   refine⟨j.1,?_⟩;have h2:=j.2;have h3:=g.2;have h4:=b.le;rw[AG] at h2;omega
  ·rw[Ae U];exact⟨c,AA _⟩
theorem Yy{s:PS}(V:An T s)(U:Av T s)(h:(AZ T s).2.code=0):Ms (AZ T s).1/\(AZ T s).1.params.length+(AZ T s).1.locals.length<=T.length:=by
 have h1:=IC O V U;have h2:=LI O none h1.good h1.stk;rw[Qw] at h2;have h3:=B4 O (f:=AJ) Ai h2.good h2.stk;have h4:=Ja O T.length none (Am T AJ (Cz T (Bn T s)).2) h3.good h3.stk;rw[Ow T.length []] at h4;have a:=B4 O (f:=Bc) Ai h4.good h4.stk;have m:=GN O none 14 a.good a.stk;have e:(BT T (Cx T s).2)=((AK T (AL T none 14) (Am T Bc (Cx T s).2)).1,Am T By (AK T (AL T none 14) (Am T Bc (Cx T s).2)).2):=by unfold BT;rw[Hg]
 have c1:=(Bs (show(Am T AQ (BT T (Cx T s).2).2).code=0 from h)).1;rw[e] at c1;have c2:=(Bs c1).1;have j:=m.code c2;have b:(B5 T T.length [] (Am T AJ (Cz T (Bn T s)).2)).2.code=0:=(Bs j).1;have c:=h4.code b;have d:=(Bs c).1;have k:=h2.code d;have l:(Ap T s).2.code=0:=(Bs (show(Am T Bl (Ap T s).2).code=0 from k)).1;have g:=AfB O Z h1.good h1.stk d;have f:=Yv O Z T.length [] _ (fun t n=>by simp at n) h3.good c b;have o:=Yn O Z a.good a.stk c2;refine⟨⟨OH Z V l,g.1,f.1,?_⟩,?_⟩
 ·show(BT T (Cx T s).2).1.length<=602/\Ep (BT T (Cx T s).2).1;rw[e];exact o
 ·have r:(B5 T T.length [] (Am T AJ (Cz T (Bn T s)).2)).2.next<T.length:=h4.good
  have p:=g.2;have i:=f.2;have q:(Cz T (Bn T s)).2.next<=(Am T AJ (Cz T (Bn T s)).2).next:=h3.le
  show(Cz T (Bn T s)).1.length+(B5 T T.length [] (Am T AJ (Cz T (Bn T s)).2)).1.length<=T.length;simp only[Bm] at i;omega
theorem Qu: ∀(n:Nat)(b:List Gl)(s:PS),(∀k∈b,KK T k)->An T s->s.code=0->(BC T n b s).2.code=0->(∀k∈(BC T n b s).1,KK T k)/\(BC T n b s).1.length+s.next<=b.length+(BC T n b s).2.next
 |0,b,s,e,V,l,h=>⟨e,AA _⟩
 |n+1,b,s,e,V,l,h=>by
  have g:Av T (Ab s):=A4 l;have m:(Ab s).next=s.next+1:=rfl
  rw[BC] at h⊢;by_cases h1:Aj T CJ s=true
  ·rw[Ag h1] at h⊢;have c:=AD O V h1 Ai;have a:=SD O c g;have c1:=Ke O a.good a.stk h;have f:=Afy O Z c g c1
   have d:=Qu n (b++(BP T (Ab s)).1) (BP T (Ab s)).2 (fun i j=>by
    rcases BD.1 j with h1|h1
    ·exact e i h1
    ·exact f.1 i h1) a.good c1 h
   refine⟨d.1,?_⟩;have h2:=d.2;have h3:=f.2;rw[AG] at h2;omega
  ·rw[Ae h1] at h⊢;by_cases h2:Aj T F0 s=true
   ·rw[Ag h2] at h⊢;have c:=AD O V h2 Ai;have a:=MT O c g;have c1:=Ke O a.good a.stk h;have f:=Yy O Z c g c1
    have d:=Qu n (b++[.proc (AZ T (Ab s)).1]) (AZ T (Ab s)).2 (fun i j=>by
     rcases BD.1 j with h1|h1
     ·exact e i h1
     ·simp at h1;subst h1;exact f) a.good c1 h
    refine⟨d.1,?_⟩;have h2:=d.2;have h3:=a.le;rw[AG] at h2;simp only[Bg,Bm] at h2;omega
   ·rw[Ae h2] at h⊢;by_cases h3:Aj T GO s=true
    ·rw[Ag h3] at h⊢;have c:=AD O V h3 Ai;have a:=MT O c g;have c1:=Ke O a.good a.stk h;have f:=Yy O Z c g c1
     have d:=Qu n (b++[.func (AZ T (Ab s)).1]) (AZ T (Ab s)).2 (fun i j=>by
      rcases BD.1 j with h1|h1
      ·exact e i h1
      ·simp at h1;subst h1;exact f) a.good c1 h
     refine⟨d.1,?_⟩;have h2:=d.2;have h3:=a.le;rw[AG] at h2;simp only[Bg,Bm] at h2;omega
    ·rw[Ae h3];exact⟨e,AA _⟩
theorem AfC{s:PS}(V:An T s)(c:s.code=0)(h:(Bd T s).2.code=0):Pm T (Bd T s).1:=by
 have a:=I9 O T.length none s V (D0 c);rw[KW T.length [] s] at a;have hb:=B4 O (f:=Bc) Ai a.good a.stk;have i:=GN O none 14 hb.good hb.stk;have b:(BT T (BJ T s).2)=((AK T (AL T none 14) (Am T Bc (BJ T s).2)).1,Am T By (AK T (AL T none 14) (Am T Bc (BJ T s).2)).2):=by unfold BT;rw[Hg]
 have h':(Dm T (Am T DR (BT T (BJ T s).2).2)).code=0:=h
 have e:(Am T DR (BT T (BJ T s).2).2).code=0:=by
  unfold Dm at h';split at h'
  ·exact h'
  ·exact(Fl (by decide) h').elim
 have c1:=(Bs e).1;rw[b] at c1;have c2:=(Bs c1).1;have f:=i.code c2;have g:(BC T T.length [] s).2.code=0:=(Bs f).1;have d:=Qu O Z T.length [] s (fun m j=>by simp at j) V c g;have k:=Yn O Z hb.good hb.stk c2;have l:(BC T T.length [] s).2.next<T.length:=a.good
 refine⟨d.1,?_,?_⟩
 ·have:=d.2;simp only[Bm] at this;show(BC T T.length [] s).1.length<=T.length;omega
 ·show(BT T (BJ T s).2).1.length<=602/\Ep (BT T (BJ T s).2).1;rw[b];exact k
end
