/- The machine in memory. The machine: the next word; the stack -/
import Derived.Test.YtklobognaldjpaaGreatCCm1
set_option maxRecDepth 1000000
set_option maxHeartbeats 1000000
namespace Go.Proofs.YtklobognaldjpaaGreat
open Go.Proofs.Tryz
open Go.RowKit
structure MR where
 pl:Value
 st:Value
 ca:Value
 ou:Value
def MR.has(R:MR)(a:Nat):Prop:=R.pl.ownBlock=some a\/R.st.ownBlock=some a\/R.ca.ownBlock=some a\/R.ou.ownBlock=some a
def Df(b c:Value):Prop:= ∀a,b.ownBlock=some a->c.ownBlock≠some a
theorem Df.symm{a b:Value}(h:Df a b):Df b a:=fun e d c=>h e c d
def KL(Q:AW)(w:World)(g:Value)(a:List Int):Prop:=
 ∃d c,g=.slice d a.length c/\a.length<=c/\c<=maxLen/\(a=[]\/ ∃b o,d=some (Ac b o)/\Q b/\ ∀e f,a[e]? =some f->w.cell? (Ac b (o+e))=some (.int .i32 f))
def Fy(b:List (Nat×Nat)):List Value:=b.flatMap fun a=>[Aa (a.1:Nat),Aa (a.2:Nat)]
def Ga(b:List Int):Prop:= ∀a∈b,-2147483648<=a/\a<=2147483647
def GX(xb:Nat)(w:World)(b:List Value):Prop:= ∀o a,b[o]? =some a->w.cell? (Ac xb o)=some a
theorem GX.set{xb:Nat}{w:World}{a:List Value}(h:GX xb w a){o:Nat}(d:o<a.length)(f:Value):GX xb (w.setCell (Ac xb o) f) (a.set o f):=by
 intro e i b;by_cases c:o=e
 ·subst c;rw[Rr d] at b;cases b;exact DW _ _ _ (h o a[o] (Bb d))
 ·rw[Rq c] at b;rw[Bh _ _ _ _ (by intro g;cases g;exact c rfl)];exact h e i b
theorem GX.block{xb:Nat}{w O:World}{a:List Value}(h:GX xb w a)(b:O.heap[xb]? =w.heap[xb]?):GX xb O a:=fun o d c=>by rw[World.cell?_of_block (w:=w) b];exact h o d c
structure FJ(xb wb:Nat)(W:List Nat)(Q:AW)(w:World)(Y stk:List Int)(V:List (Nat×Nat))(X U:List Int)(R:MR)(vi:Value):Prop where
 pl:w.ownsRow 0 21 1 R.pl Y.length (Y.map (.int .i32))
 st:w.ownsRow 0 21 1 R.st stk.length (stk.map (.int .i32))
 ca:w.ownsRow 0 228 2 R.ca V.length (Fy V)
 ou:w.ownsRow 0 3 1 R.ou X.length (X.map (.int .i64))
 inp:KL Q w vi U
 wds: ∀j x,W[j]? =some x->w.cell? (Ac wb j)=some (Aa (x:Nat))
 s1:Df R.pl R.st
 s2:Df R.pl R.ca
 s3:Df R.pl R.ou
 s4:Df R.st R.ca
 s5:Df R.st R.ou
 s6:Df R.ca R.ou
 qw:Q wb
 far: ∀b,Q b->b<w.heap.size/\b≠xb/\ ¬R.has b
 xr: ¬R.has xb
 xlt:xb<w.heap.size
 rp:Ga Y
 rs:Ga stk
 ri:Ga U
 c30:V.length<=30
 o60:X.length<=60
def IJ(wb wc:Nat)(W:List Nat)(m:MS)(fuel limit:Nat)(waits:Bool)(R:MR)(vi:Value):List Value:=
 [Ar wb W.length wc,Aa (m.pc:Nat),R.pl,R.st,Aa (m.base:Nat),R.ca,vi,Aa (fuel:Nat),Aa (limit:Nat),Aa ((m.over.getD 0:Nat):Int),R.ou,Aa (m.used:Nat),.bool m.over.isSome,.bool waits]
structure MC(xb wb wc:Nat)(W:List Nat)(Q:AW)(w:World)(m:MS)(fuel limit:Nat)(waits:Bool)(R:MR)(vi:Value):Prop where
 cel:GX xb w (IJ wb wc W m fuel limit waits R vi)
 frz: ∀o,w.frozen? (Ac xb o)=false
 rows:FJ xb wb W Q w m.places m.stack m.calls m.out m.input R vi
def MM(xb:Nat)(R c:MR)(w O:World):Prop:=Fr (fun b=>b=xb\/R.has b) w O/\ ∀a,c.has a->R.has a\/w.heap.size<=a
theorem MM.refl(xb:Nat)(R:MR)(w:World):MM xb R R w w:=⟨Fr.refl _ _,fun _ h=>.inl h⟩
theorem MM.of_below{xb:Nat}{R:MR}{w O:World}(h:Ay w O):MM xb R R w O:=⟨Fr.of_below h,fun _ h=>.inl h⟩
theorem MM.trans{xb:Nat}{R g i:MR}{j k l:World}(h:MM xb R g j k)(b:MM xb g i k l):MM xb R i j l:=by
 refine⟨⟨b.1.os.trans h.1.os,b.1.tape.trans h.1.tape,b.1.output.trans h.1.output,AT h.1.size b.1.size,fun a c e=> ?_⟩,fun a c=> ?_⟩
 ·refine(b.1.block a (CF c h.1.size) ?_).trans (h.1.block a c e);rintro(d|d)
  ·exact e (.inl d)
  ·rcases h.2 a d with m|m
   ·exact e (.inr m)
   ·omega
 ·rcases b.2 a c with f|f
  ·exact h.2 a f
  ·exact .inr (AT h.1.size f)
section
variable{xb wb wc fuel limit:Nat}{W:List Nat}{Q:AW}{w O:World}{m:MS}{waits:Bool}{R:MR}{vi:Value}{Y stk X U:List Int}{V:List (Nat×Nat)}
theorem KL.same{d:Value}{e:List Int}(h:KL Q w d e)(p: ∀a,Q a->O.heap[a]? =w.heap[a]?):KL Q O d e:=by
 obtain⟨f,g,i,j,k,b⟩:=h;refine⟨f,g,i,j,k,?_⟩;rcases b with b|⟨a,o,l,c,m⟩
 ·exact .inl b
 ·exact .inr ⟨a,o,l,c,fun q r n=>by rw[World.cell?_of_block (w:=w) (p a c)];exact m q r n⟩
theorem Gs{base:Nat}{d:TypeId}{size:Nat}{c:Value}{g:Nat}{i:List Value}(h:w.ownsRow base d size c g i)(m: ∀a,c.ownBlock=some a->O.heap[a]? =w.heap[a]?):O.ownsRow base d size c g i:=by
 obtain⟨j,b⟩:=h;refine⟨j,?_⟩;rcases b with b|⟨e,cap,Ad,f,k,l,n⟩
 ·exact .inl b
 ·exact .inr ⟨e,cap,Ad,f,k,by rw[m e (by rw[f];rfl)];exact l,n⟩
section
variable(h:FJ xb wb W Q w Y stk V X U R vi)
include h
theorem FJ.same(d:w.heap.size<=O.heap.size)(c: ∀a,Q a\/R.has a->O.heap[a]? =w.heap[a]?):FJ xb wb W Q O Y stk V X U R vi:=
 ⟨Gs h.pl fun a b=>c a (.inr (.inl b)),Gs h.st fun a b=>c a (.inr (.inr (.inl b))),Gs h.ca fun a b=>c a (.inr (.inr (.inr (.inl b)))),Gs h.ou fun a b=>c a (.inr (.inr (.inr (.inr b)))),
  h.inp.same fun a b=>c a (.inl b),fun f g e=>by rw[World.cell?_of_block (w:=w) (c wb (.inl h.qw))];exact h.wds f g e,h.s1,h.s2,h.s3,h.s4,h.s5,h.s6,h.qw,
  fun a b=>⟨CF (h.far a b).1 d,(h.far a b).2⟩,h.xr,CF h.xlt d,h.rp,h.rs,h.ri,h.c30,h.o60⟩
theorem FJ.setX(o:Nat)(b:Value):FJ xb wb W Q (w.setCell (Ac xb o) b) Y stk V X U R vi:=
 h.same (by simp[World.setCell]) fun c a=>Below.heap_setCell _ _ _ _ (by
  rintro rfl;rcases a with a|a
  ·exact(h.far _ a).2.1 rfl
  ·exact h.xr a)
theorem FJ.below(d:Ay w O):FJ xb wb W Q O Y stk V X U R vi:=
 h.same d.size fun b c=>d.block b (by
  rcases c with c|c
  ·exact(h.far _ c).1
  ·rcases c with a|a|a|a
   ·exact(h.pl.lt b a).2
   ·exact(h.st.lt b a).2
   ·exact(h.ca.lt b a).2
   ·exact(h.ou.lt b a).2)
end
theorem MC.below(h:MC xb wb wc W Q w m fuel limit waits R vi)(a:Ay w O):MC xb wb wc W Q O m fuel limit waits R vi:=
 ⟨h.cel.block (a.block xb h.rows.xlt),fun o=>by rw[World.frozen?_of_block (w:=w) (a.block xb h.rows.xlt)];exact h.frz o,h.rows.below a⟩
def JA(w:World)(b v':Value):Prop:=v'.ownBlock=b.ownBlock\/ ∀a,v'.ownBlock=some a->w.heap.size<=a
theorem Ix{c f v':Value}(h:Df c f)(b:JA w f v')(g: ∀a,c.ownBlock=some a->a<w.heap.size):Df c v':=fun a e d=>by
 rcases b with b|b
 ·exact h a e (b▸d)
 ·have:=b a d;have:=g a e;omega
theorem FJ.lt(h:FJ xb wb W Q w Y stk V X U R vi): ∀a,R.has a->a<w.heap.size:=by
 rintro a(b|b|b|b)
 ·exact(h.pl.lt a b).2
 ·exact(h.st.lt a b).2
 ·exact(h.ca.lt a b).2
 ·exact(h.ou.lt a b).2
theorem K9{d v':Value}(a:JA w d v'){b:Nat}(f:b<w.heap.size)(e:d.ownBlock≠some b):v'.ownBlock≠some b:=fun c=>by
 rcases a with a|a
 ·exact e (a▸c)
 ·have:=a b c;omega
section
variable(h:FJ xb wb W Q w Y stk V X U R vi){v':Value}
include h
theorem FJ.stack{s':List Int}(i:w.grownBy O R.st.ownBlock)(m:O.ownsRow 0 21 1 v' s'.length (s'.map (.int .i32)))(e:JA w R.st v')(n:Ga s'):
 FJ xb wb W Q O Y s' V X U {R with st:=v'} vi:=by
 have q:=h.lt;have d: ∀a,a<w.heap.size->R.st.ownBlock≠some a->O.heap[a]? =w.heap[a]? :=fun a d l=>i.block a d (fun b=>l b.symm);have j: ∀a,Q a->O.heap[a]? =w.heap[a]? :=fun a c=>d a (h.far a c).1 fun b=>(h.far a c).2.2 (.inr (.inl b))
 refine⟨Gs h.pl fun a b=>d a (h.pl.lt a b).2 (h.s1 a b),m,Gs h.ca fun a b=>d a (h.ca.lt a b).2 (h.s4.symm a b),Gs h.ou fun a b=>d a (h.ou.lt a b).2 (h.s5.symm a b),h.inp.same j,
  fun o p k=>by rw[World.cell?_of_block (w:=w) (j wb h.qw)];exact h.wds o p k,Ix h.s1 e fun f b=>(h.pl.lt f b).2,h.s2,h.s3,(Ix h.s4.symm e fun f b=>(h.ca.lt f b).2).symm,(Ix h.s5.symm e fun f b=>(h.ou.lt f b).2).symm,h.s6,h.qw,
  fun a c=>⟨CF (h.far a c).1 i.size,(h.far a c).2.1,?_⟩,?_,CF h.xlt i.size,h.rp,n,h.ri,h.c30,h.o60⟩
 ·rintro(b|b|b|b)
  ·exact(h.far a c).2.2 (.inl b)
  ·exact K9 e (h.far a c).1 (fun g=>(h.far a c).2.2 (.inr (.inl g))) b
  ·exact(h.far a c).2.2 (.inr (.inr (.inl b)))
  ·exact(h.far a c).2.2 (.inr (.inr (.inr b)))
 ·rintro(b|b|b|b)
  ·exact h.xr (.inl b)
  ·exact K9 e h.xlt (fun g=>h.xr (.inr (.inl g))) b
  ·exact h.xr (.inr (.inr (.inl b)))
  ·exact h.xr (.inr (.inr (.inr b)))
theorem FJ.places{s':List Int}(i:w.grownBy O R.pl.ownBlock)(m:O.ownsRow 0 21 1 v' s'.length (s'.map (.int .i32)))(e:JA w R.pl v')(n:Ga s'):
 FJ xb wb W Q O s' stk V X U {R with pl:=v'} vi:=by
 have q:=h.lt;have d: ∀a,a<w.heap.size->R.pl.ownBlock≠some a->O.heap[a]? =w.heap[a]? :=fun a d l=>i.block a d (fun b=>l b.symm);have j: ∀a,Q a->O.heap[a]? =w.heap[a]? :=fun a c=>d a (h.far a c).1 fun b=>(h.far a c).2.2 (.inl b)
 refine⟨m,Gs h.st fun a b=>d a (h.st.lt a b).2 (h.s1.symm a b),Gs h.ca fun a b=>d a (h.ca.lt a b).2 (h.s2.symm a b),Gs h.ou fun a b=>d a (h.ou.lt a b).2 (h.s3.symm a b),h.inp.same j,
  fun o p k=>by rw[World.cell?_of_block (w:=w) (j wb h.qw)];exact h.wds o p k,(Ix h.s1.symm e fun f b=>(h.st.lt f b).2).symm,(Ix h.s2.symm e fun f b=>(h.ca.lt f b).2).symm,(Ix h.s3.symm e fun f b=>(h.ou.lt f b).2).symm,h.s4,h.s5,h.s6,h.qw,
  fun a c=>⟨CF (h.far a c).1 i.size,(h.far a c).2.1,?_⟩,?_,CF h.xlt i.size,n,h.rs,h.ri,h.c30,h.o60⟩
 ·rintro(b|b|b|b)
  ·exact K9 e (h.far a c).1 (fun g=>(h.far a c).2.2 (.inl g)) b
  ·exact(h.far a c).2.2 (.inr (.inl b))
  ·exact(h.far a c).2.2 (.inr (.inr (.inl b)))
  ·exact(h.far a c).2.2 (.inr (.inr (.inr b)))
 ·rintro(b|b|b|b)
  ·exact K9 e h.xlt (fun g=>h.xr (.inl g)) b
  ·exact h.xr (.inr (.inl b))
  ·exact h.xr (.inr (.inr (.inl b)))
  ·exact h.xr (.inr (.inr (.inr b)))
theorem FJ.calls{g:List (Nat×Nat)}(j:w.grownBy O R.ca.ownBlock)(n:O.ownsRow 0 228 2 v' g.length (Fy g))(e:JA w R.ca v')(o:g.length<=30):
 FJ xb wb W Q O Y stk g X U {R with ca:=v'} vi:=by
 have r:=h.lt;have d: ∀a,a<w.heap.size->R.ca.ownBlock≠some a->O.heap[a]? =w.heap[a]? :=fun a d m=>j.block a d (fun b=>m b.symm);have k: ∀a,Q a->O.heap[a]? =w.heap[a]? :=fun a c=>d a (h.far a c).1 fun b=>(h.far a c).2.2 (.inr (.inr (.inl b)))
 refine⟨Gs h.pl fun a b=>d a (h.pl.lt a b).2 (h.s2 a b),Gs h.st fun a b=>d a (h.st.lt a b).2 (h.s4 a b),n,Gs h.ou fun a b=>d a (h.ou.lt a b).2 (h.s6.symm a b),h.inp.same k,
  fun p q l=>by rw[World.cell?_of_block (w:=w) (k wb h.qw)];exact h.wds p q l,h.s1,Ix h.s2 e fun f b=>(h.pl.lt f b).2,h.s3,Ix h.s4 e fun f b=>(h.st.lt f b).2,h.s5,(Ix h.s6.symm e fun f b=>(h.ou.lt f b).2).symm,h.qw,
  fun a c=>⟨CF (h.far a c).1 j.size,(h.far a c).2.1,?_⟩,?_,CF h.xlt j.size,h.rp,h.rs,h.ri,o,h.o60⟩
 ·rintro(b|b|b|b)
  ·exact(h.far a c).2.2 (.inl b)
  ·exact(h.far a c).2.2 (.inr (.inl b))
  ·exact K9 e (h.far a c).1 (fun i=>(h.far a c).2.2 (.inr (.inr (.inl i)))) b
  ·exact(h.far a c).2.2 (.inr (.inr (.inr b)))
 ·rintro(b|b|b|b)
  ·exact h.xr (.inl b)
  ·exact h.xr (.inr (.inl b))
  ·exact K9 e h.xlt (fun i=>h.xr (.inr (.inr (.inl i)))) b
  ·exact h.xr (.inr (.inr (.inr b)))
theorem FJ.outs{g:List Int}(j:w.grownBy O R.ou.ownBlock)(n:O.ownsRow 0 3 1 v' g.length (g.map (.int .i64)))(e:JA w R.ou v')(o:g.length<=60):
 FJ xb wb W Q O Y stk V g U {R with ou:=v'} vi:=by
 have r:=h.lt;have d: ∀a,a<w.heap.size->R.ou.ownBlock≠some a->O.heap[a]? =w.heap[a]? :=fun a d m=>j.block a d (fun b=>m b.symm);have k: ∀a,Q a->O.heap[a]? =w.heap[a]? :=fun a c=>d a (h.far a c).1 fun b=>(h.far a c).2.2 (.inr (.inr (.inr b)))
 refine⟨Gs h.pl fun a b=>d a (h.pl.lt a b).2 (h.s3 a b),Gs h.st fun a b=>d a (h.st.lt a b).2 (h.s5 a b),Gs h.ca fun a b=>d a (h.ca.lt a b).2 (h.s6 a b),n,h.inp.same k,
  fun p q l=>by rw[World.cell?_of_block (w:=w) (k wb h.qw)];exact h.wds p q l,h.s1,h.s2,Ix h.s3 e fun f b=>(h.pl.lt f b).2,h.s4,Ix h.s5 e fun f b=>(h.st.lt f b).2,Ix h.s6 e fun f b=>(h.ca.lt f b).2,h.qw,
  fun a c=>⟨CF (h.far a c).1 j.size,(h.far a c).2.1,?_⟩,?_,CF h.xlt j.size,h.rp,h.rs,h.ri,h.c30,o⟩
 ·rintro(b|b|b|b)
  ·exact(h.far a c).2.2 (.inl b)
  ·exact(h.far a c).2.2 (.inr (.inl b))
  ·exact(h.far a c).2.2 (.inr (.inr (.inl b)))
  ·exact K9 e (h.far a c).1 (fun i=>(h.far a c).2.2 (.inr (.inr (.inr i)))) b
 ·rintro(b|b|b|b)
  ·exact h.xr (.inl b)
  ·exact h.xr (.inr (.inl b))
  ·exact h.xr (.inr (.inr (.inl b)))
  ·exact K9 e h.xlt (fun i=>h.xr (.inr (.inr (.inr i)))) b
end
theorem MM.setX(xb o:Nat)(c:Value)(R:MR)(w:World):MM xb R R w (w.setCell (Ac xb o) c):=
 ⟨⟨rfl,rfl,rfl,by simp[World.setCell],fun d e b=>Below.heap_setCell _ _ _ _ (fun a=>b (.inl a))⟩,fun _ h=>.inl h⟩
theorem MM.grown{R':MR}{row:Option Nat}(b:w.grownBy O row)(h: ∀a,row=some a->R.has a)(f: ∀c,R'.has c->R.has c\/w.heap.size<=c):MM xb R R' w O:=
 ⟨⟨b.os,b.tape,b.output,b.size,fun a e g=>b.block a e fun d=>g (.inr (h a d.symm))⟩,f⟩
theorem YD{base:Nat}{d:TypeId}{size c cap b:Nat}{e:List Value}(h:w.ownsRow base d size (Ar c b cap) b e){a:Nat}(l:a<=b):w.ownsRow base d size (Ar c a cap) a (e.take (a*size)):=by
 obtain⟨s,g⟩:=h;have m:a*size<=b*size:=UL _ l;rcases g with⟨f,_⟩|⟨r,q,Ad,p,j,k,t,i,n,o⟩
 ·cases f
 ·cases p;refine⟨by rw[It];omega,.inr ⟨c,cap,Ad,rfl,j,k,by omega,i,n,?_⟩⟩;rw[<-o,List.take_take,UK m]
theorem KZ(a:Int):IntKind.i32.wrap a=BW a:=by
 have b:IntKind.i32.bits=32:=rfl;have c:IntKind.i32.signed=true:=rfl;have d:(2:Int)^32=4294967296:=by decide
 have e:(2:Int)^(32 -1)=2147483648:=by decide
 unfold IntKind.wrap BW Int.bmod;simp only[b,c,d,e];have f:((4294967296:Nat):Int)=4294967296:=rfl;rw[f];by_cases h:2147483648<=a%4294967296
 ·rw[Ag (by simp[h]),Ae (by omega)]
 ·rw[Ae (by simp;omega),Ag (by omega)]
end
theorem Tryz.infoI32:(prog.info? 21).map (fun a=>(a.zero,a.size,a.bytes))=some (some (.int .i32 0),1,4):=by kernel_rfl
section
variable{xb wb wc fuel limit:Nat}{W:List Nat}{Q:AW}{w O:World}{m:MS}{waits:Bool}{R:MR}{vi:Value}
def A0(xb wb wc:Nat)(W:List Nat)(Q:AW)(fuel limit:Nat)(waits:Bool)(R:MR)(w:World)(d:Value)(c:MS)(vi:Value)(b:Ending)(O:World):Prop:=
 b=.returned d/\ ∃a,MC xb wb wc W Q O c fuel limit waits a vi/\MM xb R a w O
section
variable(h:MC xb wb wc W Q w m fuel limit waits R vi)
include h
theorem MC.setX{o:Nat}{c:Value}{a:MS}{d e:Nat}{f:Bool}(i:o<14)(g:IJ wb wc W a d e f R vi=(IJ wb wc W m fuel limit waits R vi).set o c)
 (b:a.places=m.places/\a.stack=m.stack/\a.calls=m.calls/\a.out=m.out/\a.input=m.input):
 MC xb wb wc W Q (w.setCell (Ac xb o) c) a d e f R vi/\MM xb R R w (w.setCell (Ac xb o) c):=by
 refine⟨⟨?_,fun j=>by rw[Cu];exact h.frz j,?_⟩,MM.setX _ _ _ _ _⟩
 ·rw[g];exact h.cel.set (by simpa[IJ] using i) c
 ·rw[b.1,b.2.1,b.2.2.1,b.2.2.2.1,b.2.2.2.2];exact h.rows.setX o c
theorem MC.setPc(p:Nat):MC xb wb wc W Q (w.setCell (Ac xb 1) (Aa (p:Nat))) {m with pc:=p} fuel limit waits R vi/\MM xb R R w (w.setCell (Ac xb 1) (Aa (p:Nat))):=
 h.setX (by omega) rfl ⟨rfl,rfl,rfl,rfl,rfl⟩
theorem MC.setBase(p:Nat):MC xb wb wc W Q (w.setCell (Ac xb 4) (Aa (p:Nat))) {m with base:=p} fuel limit waits R vi/\MM xb R R w (w.setCell (Ac xb 4) (Aa (p:Nat))):=
 h.setX (by omega) rfl ⟨rfl,rfl,rfl,rfl,rfl⟩
theorem MC.setUsed(p:Nat):MC xb wb wc W Q (w.setCell (Ac xb 11) (Aa (p:Nat))) {m with used:=p} fuel limit waits R vi/\MM xb R R w (w.setCell (Ac xb 11) (Aa (p:Nat))):=
 h.setX (by omega) rfl ⟨rfl,rfl,rfl,rfl,rfl⟩
theorem MC.setWaits(a:Bool):MC xb wb wc W Q (w.setCell (Ac xb 13) (.bool a)) m fuel limit a R vi/\MM xb R R w (w.setCell (Ac xb 13) (.bool a)):=
 h.setX (by omega) rfl ⟨rfl,rfl,rfl,rfl,rfl⟩
theorem MC.setLimit(p:Nat):MC xb wb wc W Q (w.setCell (Ac xb 8) (Aa (p:Nat))) m fuel p waits R vi/\MM xb R R w (w.setCell (Ac xb 8) (Aa (p:Nat))):=
 h.setX (by omega) rfl ⟨rfl,rfl,rfl,rfl,rfl⟩
theorem MC.setEnd(a:Nat):MC xb wb wc W Q ((w.setCell (Ac xb 9) (Aa (a:Nat))).setCell (Ac xb 12) (.bool true)) (m.end_ a) fuel limit waits R vi/\MM xb R R w ((w.setCell (Ac xb 9) (Aa (a:Nat))).setCell (Ac xb 12) (.bool true)):=by refine⟨⟨?_,fun d=>by rw[Cu,Cu];exact h.frz d,(h.rows.setX 9 _).setX 12 _⟩,(MM.setX _ _ _ _ _).trans (MM.setX _ _ _ _ _)⟩;have b:=h.cel.set (o:=9) (by simp[IJ]) (Aa (a:Nat));have c:=b.set (o:=12) (by simp[IJ]) (.bool true);exact c
theorem MC.pcAt:w.cell? (Ac xb 1)=some (Aa (m.pc:Nat)):=h.cel 1 _ rfl
theorem MC.plAt:w.cell? (Ac xb 2)=some R.pl:=h.cel 2 _ rfl
theorem MC.stAt:w.cell? (Ac xb 3)=some R.st:=h.cel 3 _ rfl
theorem MC.baAt:w.cell? (Ac xb 4)=some (Aa (m.base:Nat)):=h.cel 4 _ rfl
theorem MC.caAt:w.cell? (Ac xb 5)=some R.ca:=h.cel 5 _ rfl
theorem MC.inAt:w.cell? (Ac xb 6)=some vi:=h.cel 6 _ rfl
theorem MC.fuAt:w.cell? (Ac xb 7)=some (Aa (fuel:Nat)):=h.cel 7 _ rfl
theorem MC.liAt:w.cell? (Ac xb 8)=some (Aa (limit:Nat)):=h.cel 8 _ rfl
theorem MC.coAt:w.cell? (Ac xb 9)=some (Aa ((m.over.getD 0:Nat):Int)):=h.cel 9 _ rfl
theorem MC.ouAt:w.cell? (Ac xb 10)=some R.ou:=h.cel 10 _ rfl
theorem MC.usAt:w.cell? (Ac xb 11)=some (Aa (m.used:Nat)):=h.cel 11 _ rfl
theorem MC.ovAt:w.cell? (Ac xb 12)=some (.bool m.over.isSome):=h.cel 12 _ rfl
theorem MC.waAt:w.cell? (Ac xb 13)=some (.bool waits):=h.cel 13 _ rfl
theorem MC.wdAt:w.cell? (Ac xb 0)=some (Ar wb W.length wc):=h.cel 0 _ rfl
theorem LP(a:Nat):
 Ah 103 #[Al xb,Aa (a:Nat)] w (A0 xb wb wc W Q fuel limit waits R w A6 (m.end_ a) vi):=by
 have c:=h.coAt;have b:=h.ovAt;have e:=h.frz 9;have d:=h.frz 12;go_enter func103,ntmps103;go_wp2;go_end0;exact⟨rfl,R,(h.setEnd a).1,(h.setEnd a).2⟩
theorem Ajf(j:0<m.pc)(g:m.pc<=1000000):
 Ah 133 #[Al xb] w (A0 xb wb wc W Q fuel limit true R w A6 {m with pc:=m.pc -1} vi):=by
 have f:=h.pcAt;have k:=h.frz 1;have l:=h.frz 13;have i:=h.waAt;obtain⟨p,c⟩: ∃p,m.pc=p+1:=⟨m.pc -1,by omega⟩;have HS:=h.setPc p;have a:=HS.1.setWaits true;have e:{m with pc:=m.pc -1}={m with pc:=p}:=by rw[c];rfl
 rw[e];rw[c] at f;have b:Hid _:=a;have d:Hid _:=HS;clear HS a;go_enter func133,ntmps133;go_wp2;go_end0;exact⟨rfl,R,b.out.1,d.out.2.trans b.out.2⟩
end
end
theorem Tryz.infoFrame:(prog.info? 228).map (fun a=>(a.zero,a.size,a.bytes))=some (some (.agg #[Aa 0,Aa 0]),2,16):=by kernel_rfl
section
variable{xb wb wc fuel limit:Nat}{W:List Nat}{Q:AW}{w O w1:World}{m:MS}{waits:Bool}{R:MR}{vi:Value}
section
variable(h:MC xb wb wc W Q w m fuel limit waits R vi)
include h
theorem MC.cellsG{row:Option Nat}(c:w.grownBy w1 row)(d:row≠some xb):GX xb w1 (IJ wb wc W m fuel limit waits R vi)/\(∀o,w1.frozen? (Ac xb o)=false):=by have a:w1.heap[xb]? =w.heap[xb]? :=c.block xb h.rows.xlt (fun b=>d b.symm);exact⟨h.cel.block a,fun o=>by rw[World.frozen?_of_block (w:=w) a];exact h.frz o⟩
theorem MC.stackTo{v':Value}{s':List Int}(c:w.grownBy w1 R.st.ownBlock)(g:w1.ownsRow 0 21 1 v' s'.length (s'.map (.int .i32)))(b:JA w R.st v')(i:Ga s'):
 MC xb wb wc W Q (w1.setCell (Ac xb 3) v') {m with stack:=s'} fuel limit waits {R with st:=v'} vi/\MM xb R {R with st:=v'} w (w1.setCell (Ac xb 3) v'):=by
 obtain⟨d,e⟩:=h.cellsG c (fun a=>h.rows.xr (.inr (.inl a)));refine⟨⟨d.set (o:=3) (by simp[IJ]) v',fun o=>by rw[Cu];exact e o,(h.rows.stack c g b i).setX 3 v'⟩,?_⟩;refine(MM.grown (R':={R with st:=v'}) c (fun k a=>.inr (.inl a)) (fun j f=> ?_)).trans (MM.setX _ _ _ _ _);rcases f with a|a|a|a
 ·exact .inl (.inl a)
 ·rcases b with b|b
  ·exact .inl (.inr (.inl (b▸a)))
  ·exact .inr (b j a)
 ·exact .inl (.inr (.inr (.inl a)))
 ·exact .inl (.inr (.inr (.inr a)))
theorem MC.callsTo{v':Value}{s':List (Nat×Nat)}(c:w.grownBy w1 R.ca.ownBlock)(g:w1.ownsRow 0 228 2 v' s'.length (Fy s'))(b:JA w R.ca v')(i:s'.length<=30):
 MC xb wb wc W Q (w1.setCell (Ac xb 5) v') {m with calls:=s'} fuel limit waits {R with ca:=v'} vi/\MM xb R {R with ca:=v'} w (w1.setCell (Ac xb 5) v'):=by
 obtain⟨d,e⟩:=h.cellsG c (fun a=>h.rows.xr (.inr (.inr (.inl a))));refine⟨⟨d.set (o:=5) (by simp[IJ]) v',fun o=>by rw[Cu];exact e o,(h.rows.calls c g b i).setX 5 v'⟩,?_⟩;refine(MM.grown (R':={R with ca:=v'}) c (fun k a=>.inr (.inr (.inl a))) (fun j f=> ?_)).trans (MM.setX _ _ _ _ _);rcases f with a|a|a|a
 ·exact .inl (.inl a)
 ·exact .inl (.inr (.inl a))
 ·rcases b with b|b
  ·exact .inl (.inr (.inr (.inl (b▸a))))
  ·exact .inr (b j a)
 ·exact .inl (.inr (.inr (.inr a)))
theorem MC.outTo{v':Value}{s':List Int}(c:w.grownBy w1 R.ou.ownBlock)(g:w1.ownsRow 0 3 1 v' s'.length (s'.map (.int .i64)))(b:JA w R.ou v')(i:s'.length<=60):
 MC xb wb wc W Q (w1.setCell (Ac xb 10) v') {m with out:=s'} fuel limit waits {R with ou:=v'} vi/\MM xb R {R with ou:=v'} w (w1.setCell (Ac xb 10) v'):=by
 obtain⟨d,e⟩:=h.cellsG c (fun a=>h.rows.xr (.inr (.inr (.inr a))));refine⟨⟨d.set (o:=10) (by simp[IJ]) v',fun o=>by rw[Cu];exact e o,(h.rows.outs c g b i).setX 10 v'⟩,?_⟩;refine(MM.grown (R':={R with ou:=v'}) c (fun k a=>.inr (.inr (.inr a))) (fun j f=> ?_)).trans (MM.setX _ _ _ _ _);rcases f with a|a|a|a
 ·exact .inl (.inl a)
 ·exact .inl (.inr (.inl a))
 ·exact .inl (.inr (.inr (.inl a)))
 ·rcases b with b|b
  ·exact .inl (.inr (.inr (.inr (b▸a))))
  ·exact .inr (b j a)
theorem MC.placeTo{c cap:Nat}(g:R.pl=Ar c m.places.length cap)(b:Nat){a:Int}(p: -2147483648<=a/\a<=2147483647):
 MC xb wb wc W Q (w.setCell (Ac c b) (.int .i32 a)) {m with places:=m.places.set b a} fuel limit waits R vi/\MM xb R R w (w.setCell (Ac c b) (.int .i32 a)):=by
 have i:=h.rows.pl;rw[g] at i;obtain⟨q,r⟩:=i.stored b (.int .i32 a);have n:R.pl.ownBlock=some c:=by rw[g];rfl
 have f:w.grownBy (w.setCell (Ac c b) (.int .i32 a)) R.pl.ownBlock:=by rw[n];exact r
 obtain⟨j,k⟩:=h.cellsG f (fun d=>h.rows.xr (.inl d));have u:({R with pl:=R.pl}:MR)=R:=rfl;refine⟨⟨j,k,?_⟩,MM.grown f (fun t d=>.inl d) (fun v l=>.inl l)⟩
 have:=h.rows.places (v':=R.pl) (s':=m.places.set b a) f (by rw[Lq,J5];rw[g];exact q) (.inl rfl) (by
  intro s o;rcases Mo o with e|e
  ·exact h.rows.rp s e
  ·rw[e];exact p)
 exact this
theorem MC.slotTo{c cap:Nat}(g:R.st=Ar c m.stack.length cap)(b:Nat){a:Int}(p: -2147483648<=a/\a<=2147483647):
 MC xb wb wc W Q (w.setCell (Ac c b) (.int .i32 a)) {m with stack:=m.stack.set b a} fuel limit waits R vi/\MM xb R R w (w.setCell (Ac c b) (.int .i32 a)):=by
 have i:=h.rows.st;rw[g] at i;obtain⟨q,r⟩:=i.stored b (.int .i32 a);have n:R.st.ownBlock=some c:=by rw[g];rfl
 have f:w.grownBy (w.setCell (Ac c b) (.int .i32 a)) R.st.ownBlock:=by rw[n];exact r
 obtain⟨j,k⟩:=h.cellsG f (fun d=>h.rows.xr (.inr (.inl d)));refine⟨⟨j,k,?_⟩,MM.grown f (fun t d=>.inr (.inl d)) (fun u l=>.inl l)⟩
 have:=h.rows.stack (v':=R.st) (s':=m.stack.set b a) f (by rw[Lq,J5];rw[g];exact q) (.inl rfl) (by
  intro s o;rcases Mo o with e|e
  ·exact h.rows.rs s e
  ·rw[e];exact p)
 exact this
end
theorem AgU{c:List Int}(h:Ga c){b:Int}(e: -2147483648<=b/\b<=2147483647):Ga (c++[b]):=by
 intro f d;rcases BD.1 d with a|a
 ·exact h f a
 ·simp at a;rw[a];exact e
theorem Y8{a:List Int}(h:Ga a)(c:Nat):Ga (a.take c):=fun d b=>h d (List.mem_of_mem_take b)
theorem Ln(a:Int): -2147483648<=BW a/\BW a<=2147483647:=by unfold BW;have b:=Int.bmod_lt (x:=a) (m:=4294967296) (by omega);have c:=Int.le_bmod (x:=a) (m:=4294967296) (by omega);omega
theorem Ny(a:Bool): -2147483648<=Cv a/\Cv a<=2147483647:=by cases a<;>decide
theorem MC.stackCut(h:MC xb wb wc W Q w m fuel limit waits R vi){a cap:Nat}(d:R.st=Ar a m.stack.length cap){k:Nat}(e:k<=m.stack.length):
 MC xb wb wc W Q (w.setCell (Ac xb 3) (Ar a k cap)) {m with stack:=m.stack.take k} fuel limit waits {R with st:=Ar a k cap} vi/\MM xb R {R with st:=Ar a k cap} w (w.setCell (Ac xb 3) (Ar a k cap)):=by
 have c:=h.rows.st;rw[d] at c;have b:=YD c e;have f:(m.stack.take k).length=k:=by rw[It];omega
 refine h.stackTo (w1:=w) ⟨rfl,rfl,rfl,AA _,fun _ _ _=>rfl⟩ ?_ (.inl (by rw[d];rfl)) (Y8 h.rows.rs k);rw[f,UC];rw[Mr] at b;exact b
theorem V5: ∀(b:List (Nat×Nat))(a:Nat),Fy (b.take a)=(Fy b).take (a*2)
 |[],a=>by simp[Fy]
 |c::b,0=>by simp[Fy]
 |c::b,a+1=>by have:=V5 b a;show Fy (c::b.take a)=_;have e: ∀d,Fy (c::d)=[Aa (c.1:Nat),Aa (c.2:Nat)]++Fy d:=fun d=>rfl;rw[e,e,this,show(a+1)*2=a*2+1+1 by omega];rfl
theorem AcF(b:List (Nat×Nat))(a:Nat×Nat):Fy (b++[a])=Fy b++[Aa (a.1:Nat),Aa (a.2:Nat)]:=by unfold Fy;rw[Ph];rfl
section
variable(h:MC xb wb wc W Q w m fuel limit waits R vi)
include h
theorem MC.callsCut{g cap:Nat}(b:R.ca=Ar g m.calls.length cap){k:Nat}(d:k<=m.calls.length):
 MC xb wb wc W Q (w.setCell (Ac xb 5) (Ar g k cap)) {m with calls:=m.calls.take k} fuel limit waits {R with ca:=Ar g k cap} vi/\MM xb R {R with ca:=Ar g k cap} w (w.setCell (Ac xb 5) (Ar g k cap)):=by
 have a:=h.rows.ca;rw[b] at a;have c:=YD a d;have e:(m.calls.take k).length=k:=by rw[It];omega
 refine h.callsTo (w1:=w) ⟨rfl,rfl,rfl,AA _,fun _ _ _=>rfl⟩ ?_ (.inl (by rw[b];rfl)) (by have:=h.rows.c30;omega);rw[e,V5];exact c
theorem FS{a:Int}(z: -2147483648<=a/\a<=2147483647)(G:m.stack.length<=1000000):
 Ah 105 #[Al xb,.int .i32 a] w (A0 xb wb wc W Q fuel limit waits R w A6 (m.push a) vi):=by
 obtain⟨F,u,B,C,D⟩:=info_parts Tryz.infoI32;have J:=h.stAt;have q: ∀k,Ay w (w.alloc k):=fun k=>AP;have b:=h.below (q (.cells #[.int .i32 a] 21));have y:=b.rows.st
 have v: ∀d e,[Value.int .i32 a][d]? =some e->(w.alloc (.cells #[.int .i32 a] 21)).cell? (((Ac w.heap.size 0):Addr).add d)=some e:=by
  intro d e j;cases d with
  |zero=>simp at j;subst j;exact Cl w #[.int .i32 a] 21 0
  |succ d=>simp at j
 have r:Hid (MC xb wb wc W Q (w.alloc (.cells #[.int .i32 a] 21)) m fuel limit waits R vi):=b;have E:=b.frz 3;have t:=b.stAt;have o:R.st.ownBlock≠some xb:=fun c=>h.rows.xr (.inr (.inl c));have A:xb<(w.alloc (.cells #[.int .i32 a] 21)).heap.size:=b.rows.xlt;have K:=h.rows.xlt;have s:Hid (Ga (m.stack++[a])):=AgU h.rows.rs z;clear b;go_enter func105,ntmps105
 go_wp2_with(first
  |(at_builtin;refine Gw rfl _ _ 129 rfl 0 21 F _ 1 4 underlying129 u B C D rfl (by decide) _ _ _ rfl y (Ac w.heap.size 0) 1 1 [.int .i32 a] rfl (by simp) v ?h1 ?h63 ?hby ?hbase ?hh
    case h1=>intro e p;simp at p;subst p;rfl
    case h63=>unfold maxLen;omega
    case hby=>omega
    case hbase=>exact B6 _
    intro v' w1 n i x;obtain⟨f,g,rfl⟩:=GR n;have I:w1.cell? (Ac xb 3)=some R.st:=i.cell t (fun c=>o c.symm);have H:w1.frozen? (Ac xb 3)=false:=(World.frozen?_of_block (w:=w.alloc (.cells #[.int .i32 a] 21)) (i.block xb A (fun c=>o c.symm))).trans E
    have l:Aside (MC xb wb wc W Q (w1.setCell (Ac xb 3) (.slice f (m.stack.length+1) g)) {m with stack:=m.stack++[a]} fuel limit waits {R with st:=.slice f (m.stack.length+1) g} vi/\MM xb R {R with st:=.slice f (m.stack.length+1) g} (w.alloc (.cells #[.int .i32 a] 21)) (w1.setCell (Ac xb 3) (.slice f (m.stack.length+1) g))):=r.out.stackTo i (by simpa using n) x s.out))
 go_end0;exact⟨rfl,_,l.out.1,(MM.of_below (q _)).trans l.out.2⟩
theorem JT{f:Int}(e:m.stack.getLast?=some f)(v:m.stack.length<=1000000):
 Ah 106 #[Al xb] w (A0 xb wb wc W Q fuel limit waits R w (.int .i32 f) {m with stack:=m.stack.dropLast} vi):=by
 have k:m.stack≠[]:=fun b=>by rw[b] at e;cases e
 have l:0<m.stack.length:=Mk.2 k;obtain⟨o,cap,c,_,z⟩:=h.rows.st.form l;obtain⟨a,p⟩: ∃a,m.stack.length=a+1:=⟨m.stack.length -1,by omega⟩;have q:=h.stAt;have C:=h.frz 3;have d:=h.rows.st
 have y:w.cell? (Ac o a)=some (.int .i32 f):=by
  rw[c] at d;rw[d.cellAt a (by omega),CC];have:m.stack[a]? =some f:=by rw[UB] at e;rw[<-e];congr 1;omega
  rw[this];rfl
 have g:=h.stackCut c (k:=a) (by omega);have j:m.stack.take a=m.stack.dropLast:=by rw[Uu];congr 1;omega
 rw[j] at g;have i:Hid _:=g
 have x:a+1<=cap:=by
  rcases d.2 with⟨b,n⟩|⟨u,r,Ad,b,_,_,B,_⟩
  ·omega
  ·rw[c] at b;injection b with s n t;omega
 rw[c,p] at q;have A:a<=1000000:=by omega
 clear d g j c l k;go_enter func106,ntmps106;go_wp2;go_ret;exact⟨rfl,_,i.out.1,i.out.2⟩
end
end
