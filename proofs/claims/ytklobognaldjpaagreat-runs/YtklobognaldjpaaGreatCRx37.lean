/- The reference's walk: what is declared grows. The reference' -/
import Derived.Test.YtklobognaldjpaaGreatCDcl2
import Derived.OneCell
import Derived.Deep.RegionLaw
set_option maxRecDepth 100000
set_option maxHeartbeats 8000000
namespace Go.Proofs.YtklobognaldjpaaGreat
open Go.Proofs.Tryz
open Go.RowKit
section
variable{O U cap:Nat}{T:List Az}{m:Option Nm}{n:Nm}{w X Y:World}{s r:PS}
theorem RD.base(h:RD O U cap T X m w s):X.heap.size<=w.heap.size:=h.par.size
section
variable(h:RD O U cap T X (some n) w s){I:List Value}{g Z:Nat}(y:Sy)(c2 c4 c5:Value)
include h y c2 c4 c5
theorem RD.addHere(ab:y.kind=0)(aj:n.E.here.length<=600)
 (H:w.ownsRow X.heap.size 207 6 n.hv n.E.here.length I)
 (A:Y.ownsRow X.heap.size 207 6 (Ar g (n.E.here.length+1) Z) (n.E.here.length+1) (I++[.string y.name,Aa y.kind,c2,Aa y.args,c4,c5]))
 (j:w.grownBy Y n.hv.ownBlock)(N:n.hv.ownBlock=some g\/g=w.heap.size):
 RD O U cap T X (some ⟨n.E.add true y,n.gv,Ar g (n.E.here.length+1) Z⟩) (Y.setCell ⟨O,5,none⟩ (Ar g (n.E.here.length+1) Z)) s:=by
 have b:=h.rw;have d:=b.env n rfl;have l:=h.own n rfl;have v:=h.lt;have aa:=h.tlt;have ah:=h.base;have ai:=(A.lt g rfl).1;have B: ∀m,n.hv.ownBlock=some m->X.heap.size<=m:=fun m V=>(H.lt m V).1;have F:Y.heap[O]? =w.heap[O]? :=j.block O b.lt (fun a=>by have:=B O a.symm;omega);have P:Y.heap[U]? =w.heap[U]? :=j.block U b.tlt (fun a=>by have:=B U a.symm;omega);have r: ∀o,Y.cell? (Ac O o)=w.cell? (Ac O o):=fun o=>World.cell?_of_block (w:=w) F;have k: ∀p:Addr,p≠(Ac O 5)->(Y.setCell ⟨O,5,none⟩ (Ar g (n.E.here.length+1) Z)).cell? p=Y.cell? p:=fun p K=>Bh _ _ _ _ (Ey K);have f: ∀o,o≠5->(Y.setCell ⟨O,5,none⟩ (Ar g (n.E.here.length+1) Z)).cell? (Ac O o)=w.cell? (Ac O o):=fun o z=>by rw[k _ (by intro a;cases a;exact z rfl),r]
 have C:(Y.setCell ⟨O,5,none⟩ (Ar g (n.E.here.length+1) Z)).heap.size=Y.heap.size:=by simp[World.setCell]
 have R:=j.size;have M:Fw Y (Ar g (n.E.here.length+1) Z) (n.E.here++[y]):=Fw.grow d.h H y c2 c4 c5 A;obtain⟨ag,D⟩:=l.g;have G: ∀c,n.gv.ownBlock=some c->Y.heap[c]? =w.heap[c]? :=fun c e=>j.block c (D.lt c e).2 (fun a=>l.apart c e a.symm);refine⟨⟨?_,?_,?_,?_,?_,?_,?_,b.ne,by rw[C];have:=b.tlt;omega,b.size,?_,?_⟩,?_,?_,v,aa⟩
 ·rw[f _ (by decide)];exact b.toks
 ·rw[f _ (by decide)];exact b.mode_
 ·rw[f _ (by decide)];exact b.fault
 ·rw[f _ (by decide)];exact b.place
 ·rw[f _ (by decide)];exact b.dead
 ·intro o;rw[Cu,World.frozen?_of_block (w:=w) F];exact b.frz o
 ·intro ad af S;rw[k _ (by intro a;cases a;exact b.ne rfl),World.cell?_of_block (w:=w) P];exact b.tok ad af S
 ·intro ae x;cases x;refine⟨?_,?_,?_,?_,?_,d.gne,?_,?_,d.glen,?_,d.insOk⟩
  ·rw[f _ (by decide)];exact d.gcell
  ·exact DW _ _ _ (by rw[r];exact d.hcell)
  ·rw[f _ (by decide)];exact d.ins
  ·refine d.g.keep (by rw[C];exact R) (fun c e W o=> ?_);rw[k _ (by intro a;cases a;exact d.gne e),World.cell?_of_block (w:=w) (G c e)]
  ·refine M.keep (by rw[C];exact AA _) (fun c e W o=> ?_);simp[Value.ownBlock] at e;exact k _ (by intro a;cases a;omega)
  ·intro a;simp[Value.ownBlock] at a;omega
  ·intro J ac;have i:J∈n.E.here++[y]:=ac;rw[BD] at i;rcases i with i|i
   ·exact d.vars J i
   ·simp at i;subst i;exact ab
  ·show(n.E.here++[y]).length<=601;simp;omega
 ·intro o z;rcases z with rfl|rfl
  ·rw[DW _ _ _ (by rw[r];exact d.hcell)];rfl
  ·rw[f _ (by decide)];exact b.ext 6 (.inr rfl)
 ·exact(He h.par j B).setCell _ _
 ·intro ae x;cases x;refine⟨⟨ag,?_⟩,⟨I++[.string y.name,Aa y.kind,c2,Aa y.args,c4,c5],?_⟩,?_,?_⟩
  ·exact ownsRow_setCell_below (D.kept j (by
    cases a:n.gv.ownBlock with
    |none=>exact .inl rfl
    |some c=>right;intro q;exact l.apart c a q.symm)) (a:=(Ac O 5)) v _
  ·have:(n.E.add true y).here.length=n.E.here.length+1:=by show(n.E.here++[y]).length=_;simp
   rw[this];exact ownsRow_setCell_below A (a:=(Ac O 5)) v _
  ·intro c e a;simp[Value.ownBlock] at a;subst a;rcases N with E|E
   ·exact l.apart _ e E
   ·have:=(D.lt _ e).2;omega
  ·intro Q t u;have L:=l.last Q t u;rw[k _ (by intro a;have q:t=O:=C4 Addr.block a;exact d.gne (q▸u)),World.cell?_of_block (w:=w) (G t u)];exact L
theorem RD.addGlob(N:c4=Aw)(ai:n.E.glob.length<=600)
 (z:w.ownsRow X.heap.size 207 6 n.gv n.E.glob.length I)
 (m:Y.ownsRow X.heap.size 207 6 (Ar g (n.E.glob.length+1) Z) (n.E.glob.length+1) (I++[.string y.name,Aa y.kind,c2,Aa y.args,c4,c5]))
 (j:w.grownBy Y n.gv.ownBlock)(L:n.gv.ownBlock=some g\/g=w.heap.size):
 RD O U cap T X (some ⟨n.E.add false y,Ar g (n.E.glob.length+1) Z,n.hv⟩) (Y.setCell ⟨O,4,none⟩ (Ar g (n.E.glob.length+1) Z)) s:=by
 have b:=h.rw;have d:=b.env n rfl;have l:=h.own n rfl;have u:=h.lt;have V:=h.tlt;have af:=h.base;have ah:=(m.lt g rfl).1;have A: ∀i,n.gv.ownBlock=some i->X.heap.size<=i:=fun i t=>(z.lt i t).1;have F:Y.heap[O]? =w.heap[O]? :=j.block O b.lt (fun a=>by have:=A O a.symm;omega);have M:Y.heap[U]? =w.heap[U]? :=j.block U b.tlt (fun a=>by have:=A U a.symm;omega);have D: ∀o,Y.cell? (Ac O o)=w.cell? (Ac O o):=fun o=>World.cell?_of_block (w:=w) F;have k: ∀p:Addr,p≠(Ac O 4)->(Y.setCell ⟨O,4,none⟩ (Ar g (n.E.glob.length+1) Z)).cell? p=Y.cell? p:=fun p J=>Bh _ _ _ _ (Ey J);have f: ∀o,o≠4->(Y.setCell ⟨O,4,none⟩ (Ar g (n.E.glob.length+1) Z)).cell? (Ac O o)=w.cell? (Ac O o):=fun o x=>by rw[k _ (by intro a;cases a;exact x rfl),D]
 have B:(Y.setCell ⟨O,4,none⟩ (Ar g (n.E.glob.length+1) Z)).heap.size=Y.heap.size:=by simp[World.setCell]
 have Q:=j.size;have K:Fw Y (Ar g (n.E.glob.length+1) Z) (n.E.glob++[y]):=Fw.grow d.g z y c2 c4 c5 m;obtain⟨ad,C⟩:=l.h;have P: ∀c,n.hv.ownBlock=some c->Y.heap[c]? =w.heap[c]? :=fun c e=>j.block c (C.lt c e).2 (fun a=>l.apart c a.symm e);refine⟨⟨?_,?_,?_,?_,?_,?_,?_,b.ne,by rw[B];have:=b.tlt;omega,b.size,?_,?_⟩,?_,?_,u,V⟩
 ·rw[f _ (by decide)];exact b.toks
 ·rw[f _ (by decide)];exact b.mode_
 ·rw[f _ (by decide)];exact b.fault
 ·rw[f _ (by decide)];exact b.place
 ·rw[f _ (by decide)];exact b.dead
 ·intro o;rw[Cu,World.frozen?_of_block (w:=w) F];exact b.frz o
 ·intro aa ac R;rw[k _ (by intro a;cases a;exact b.ne rfl),World.cell?_of_block (w:=w) M];exact b.tok aa ac R
 ·intro ab v;cases v;refine⟨?_,?_,?_,?_,?_,?_,d.hne,d.vars,?_,d.hlen,?_⟩
  ·exact DW _ _ _ (by rw[D];exact d.gcell)
  ·rw[f _ (by decide)];exact d.hcell
  ·rw[f _ (by decide)];exact d.ins
  ·refine K.keep (by rw[B];exact AA _) (fun c e S o=> ?_);simp[Value.ownBlock] at e;exact k _ (by intro a;cases a;omega)
  ·refine d.h.keep (by rw[B];exact Q) (fun c e S o=> ?_);rw[k _ (by intro a;cases a;exact d.hne e),World.cell?_of_block (w:=w) (P c e)]
  ·intro a;simp[Value.ownBlock] at a;omega
  ·show(n.E.glob++[y]).length<=601;simp;omega
  ·intro i t;have:=d.insOk i t;show i<(n.E.glob++[y]).length;simp;omega
 ·intro o x;rcases x with rfl|rfl
  ·rw[f _ (by decide)];exact b.ext 5 (.inl rfl)
  ·rw[f _ (by decide)];exact b.ext 6 (.inr rfl)
 ·exact(He h.par j A).setCell _ _
 ·intro ab v;cases v;refine⟨⟨I++[.string y.name,Aa y.kind,c2,Aa y.args,c4,c5],?_⟩,⟨ad,?_⟩,?_,?_⟩
  ·have:(n.E.add false y).glob.length=n.E.glob.length+1:=by show(n.E.glob++[y]).length=_;simp
   rw[this];exact ownsRow_setCell_below m (a:=(Ac O 4)) u _
  ·exact ownsRow_setCell_below (C.kept j (by
    cases a:n.hv.ownBlock with
    |none=>exact .inl rfl
    |some c=>right;intro q;exact l.apart c q.symm a)) (a:=(Ac O 4)) u _
  ·intro c e a;simp[Value.ownBlock] at e;subst e;rcases L with E|E
   ·exact l.apart _ E a
   ·have:=(C.lt _ a).2;omega
  ·intro ag r G;have H:r=g:=by simp[Value.ownBlock] at G;exact G.symm
   subst H;have q:((n.E.add false y).glob.length -1)*6+4=n.E.glob.length*6+4:=by show((n.E.glob++[y]).length -1)*6+4=_;simp
   show(Y.setCell ⟨O,4,none⟩ _).cell? (Ac r (((n.E.add false y).glob.length -1)*6+4))=_;rw[q,k _ (by intro a;have ae:r=O:=C4 Addr.block a;omega),m.cellAt _ (by omega),N];have W:I.length=n.E.glob.length*6:=z.1;rw[CS (by omega),W];simp
end
theorem RD.setGlob(h:RD O U cap T X (some n) w s){a Z:Nat}(v:n.gv=Ar a n.E.glob.length Z)(m c:Nat)(M:(c=4/\n.E.fresh=false)\/c=5)(k:Value):
 RD O U cap T X (some n) (w.setCell ⟨a,m*6+c,none⟩ k) s:=by
 have d:=h.rw;have f:=d.env n rfl;have i:=h.own n rfl;have S:=h.lt;have Y:=h.tlt;obtain⟨ac,C⟩:=i.g;obtain⟨I,aa⟩:=i.h;have j:n.gv.ownBlock=some a:=by rw[v];rfl
 have R:=(C.lt a j).1;have W:=(v▸C:w.ownsRow X.heap.size 207 6 (Ar a n.E.glob.length Z) n.E.glob.length ac).stored (m*6+c) k;have e: ∀p:Addr,p.block≠a->(w.setCell ⟨a,m*6+c,none⟩ k).cell? p=w.cell? p:=fun p L=>Bh _ _ _ _ (by intro b;subst b;exact L rfl);have u:(w.setCell ⟨a,m*6+c,none⟩ k).heap.size=w.heap.size:=by simp[World.setCell]
 refine⟨⟨?_,?_,?_,?_,?_,?_,?_,d.ne,by rw[u];exact d.tlt,d.size,?_,?_⟩,?_,?_,S,Y⟩
 ·rw[e _ (by show O≠a;omega)];exact d.toks
 ·rw[e _ (by show O≠a;omega)];exact d.mode_
 ·rw[e _ (by show O≠a;omega)];exact d.fault
 ·rw[e _ (by show O≠a;omega)];exact d.place
 ·rw[e _ (by show O≠a;omega)];exact d.dead
 ·intro o;rw[Cu];exact d.frz o
 ·intro x k r;rw[e _ (by show U≠a;omega)];exact d.tok x k r
 ·intro ab t;cases t;refine⟨?_,?_,?_,?_,?_,f.gne,f.hne,f.vars,f.glen,f.hlen,f.insOk⟩
  ·rw[e _ (by show O≠a;omega)];exact f.gcell
  ·rw[e _ (by show O≠a;omega)];exact f.hcell
  ·rw[e _ (by show O≠a;omega)];exact f.ins
  ·rcases f.g with⟨g,J⟩|⟨l,G,g,N,Q⟩
   ·exact .inl ⟨g,J⟩
   ·refine .inr ⟨l,G,g,by rw[u];exact N,fun x y r=> ?_⟩;have K:l=a:=by rw[g] at j;simpa[Value.ownBlock] using j
    subst K;obtain⟨D,E,F⟩:=Q x y r;refine⟨?_,?_,?_⟩
    ·rw[Bh _ _ _ _ (by intro b;simp only[Rc,true_and,Pq] at b;omega)];exact D
    ·rw[Bh _ _ _ _ (by intro b;simp only[Rc,true_and,Pq] at b;omega)];exact E
    ·rw[Bh _ _ _ _ (by intro b;simp only[Rc,true_and,Pq] at b;omega)];exact F
  ·exact f.h.keep (by rw[u];exact AA _) (fun l P ad o=>e _ (by intro b;have H:l=a:=b;subst H;exact i.apart _ j P))
 ·intro o V;rw[e _ (by show O≠a;omega)];exact d.ext o V
 ·exact h.par.setNew R _
 ·intro ab t;cases t;refine⟨⟨_,by rw[v];exact W.1⟩,⟨I,?_⟩,i.apart,?_⟩
  ·exact ownsRow_setCell_other aa (by intro b;exact i.apart _ j b) _
  ·intro A z q;have g:z=a:=by rw[j] at q;exact(FH q).symm
   subst g;rcases M with⟨_,B⟩|rfl
   ·rw[A] at B;cases B
   ·rw[Bh _ _ _ _ (by intro b;simp only[Rc,true_and,Pq] at b;omega)];exact i.last A z q
theorem RD.grownElse(h:RD O U cap T X m w s){r:Value}(d:w.grownBy Y r.ownBlock)(q: ∀v,r.ownBlock=some v->X.heap.size<=v)(g: ∀n,m=some n-> ∀c,r.ownBlock=some c->n.gv.ownBlock≠some c/\n.hv.ownBlock≠some c):
 RD O U cap T X m Y s:=by
 have a:=h.rw;have B:=h.lt;have E:=h.tlt;have t:Y.heap[O]? =w.heap[O]? :=d.block O a.lt (fun b=>by have:=q O b.symm;omega);have x:Y.heap[U]? =w.heap[U]? :=d.block U a.tlt (fun b=>by have:=q U b.symm;omega);have b: ∀o,Y.cell? (Ac O o)=w.cell? (Ac O o):=fun o=>World.cell?_of_block (w:=w) t
 refine⟨⟨by rw[b];exact a.toks,by rw[b];exact a.mode_,by rw[b];exact a.fault,by rw[b];exact a.place,by rw[b];exact a.dead,
  fun o=>by rw[World.frozen?_of_block (w:=w) t];exact a.frz o,
  fun G H A=>by rw[World.cell?_of_block (w:=w) x];exact a.tok G H A,a.ne,CF a.tlt d.size,a.size,
  fun n f=>(a.env n f).keep d.size (b 4) (b 5) (b 6) (fun c y _ C o=>World.cell?_of_block (w:=w) (d.block c C (fun e=> ?_))),fun o D=>by rw[b];exact a.ext o D⟩,He h.par d q,fun n f=> ?_,B,E⟩
 ·rcases y with l|l
  ·exact(g n f c e.symm).1 l
  ·exact(g n f c e.symm).2 l
 ·have j:=h.own n f;obtain⟨J,u⟩:=j.g;obtain⟨I,F⟩:=j.h;refine⟨⟨J,u.kept d ?_⟩,⟨I,F.kept d ?_⟩,j.apart,?_⟩
  ·cases k:n.gv.ownBlock with
   |none=>exact .inl rfl
   |some c=>right;intro e;exact(g n f c e.symm).1 k
  ·cases k:n.hv.ownBlock with
   |none=>exact .inl rfl
   |some c=>right;intro e;exact(g n f c e.symm).2 k
  ·intro z i p;rw[World.cell?_of_block (w:=w) (d.block i (u.lt i p).2 (fun e=>(g n f i e.symm).1 p))];exact j.last z i p
def Nm.stale(n:Nm):Nm:=⟨{n.E with fresh:=false},n.gv,n.hv⟩
theorem RD.stale(h:RD O U cap T X (some n) w s):RD O U cap T X (some n.stale) w s:=by
 have a:=h.rw;have b:=a.env n rfl;have c:=h.own n rfl
 exact⟨⟨a.toks,a.mode_,a.fault,a.place,a.dead,a.frz,a.tok,a.ne,a.tlt,a.size,fun f d=>by
  cases d
  exact⟨b.gcell,b.hcell,b.ins,b.g,b.h,b.gne,b.hne,b.vars,b.glen,b.hlen,b.insOk⟩,a.ext⟩,h.par,fun f d=>by
  cases d
  exact⟨c.g,c.h,c.apart,fun e=>by cases e⟩,h.lt,h.tlt⟩
def Nm.leave(n:Nm):Nm:=⟨n.E.leave,n.gv,Aw⟩
def Nm.enter(n:Nm):Nm:=⟨n.E.enter,n.gv,n.hv⟩
theorem RD.enter(h:RD O U cap T X (some n) w s)(F:0<n.E.glob.length):
 RD O U cap T X (some n.enter) (w.setCell ⟨O,6,none⟩ (Aa ((n.E.glob.length:Int) -1))) s:=by
 have b:=h.rw;have a:=b.env n rfl;have f:=h.own n rfl;have i:=h.lt;have x:=h.tlt;obtain⟨E,y⟩:=f.g;obtain⟨I,z⟩:=f.h;have c: ∀e:Addr,e≠(Ac O 6)->(w.setCell ⟨O,6,none⟩ (Aa ((n.E.glob.length:Int) -1))).cell? e=w.cell? e:=fun e m=>Bh _ _ _ _ (Ey m);have k:(w.setCell ⟨O,6,none⟩ (Aa ((n.E.glob.length:Int) -1))).heap.size=w.heap.size:=by simp[World.setCell]
 refine⟨⟨?_,?_,?_,?_,?_,?_,?_,b.ne,by rw[k];exact b.tlt,b.size,?_,?_⟩,?_,?_,i,x⟩
 ·rw[c _ (by simp)];exact b.toks
 ·rw[c _ (by simp)];exact b.mode_
 ·rw[c _ (by simp)];exact b.fault
 ·rw[c _ (by simp)];exact b.place
 ·rw[c _ (by simp)];exact b.dead
 ·intro o;rw[Cu];exact b.frz o
 ·intro A D q;rw[c _ (by intro d;cases d;exact b.ne rfl)];exact b.tok A D q
 ·intro C j;cases j;refine⟨?_,?_,?_,?_,?_,a.gne,a.hne,a.vars,a.glen,a.hlen,?_⟩
  ·rw[c _ (by simp)];exact a.gcell
  ·rw[c _ (by simp)];exact a.hcell
  ·rw[DW _ _ _ a.ins];show some (Value.int .i64 ((n.E.glob.length:Int) -1))=some (Value.int .i64 (((n.E.glob.length -1:Nat):Int)))
   congr 2;omega
  ·exact a.g.keep (by rw[k];exact AA _) (fun l g u o=>c _ (by intro d;cases d;exact a.gne g))
  ·exact a.h.keep (by rw[k];exact AA _) (fun l g u o=>c _ (by intro d;cases d;exact a.hne g))
  ·intro B r;have t:some (n.E.glob.length -1)=some B:=r;cases t;show n.E.glob.length -1<n.E.glob.length;omega
 ·intro o v;rcases v with rfl|rfl
  ·rw[c _ (by simp)];exact b.ext 5 (.inl rfl)
  ·rw[DW _ _ _ a.ins];rfl
 ·exact h.par.setCell _ _
 ·intro C j;cases j;exact⟨⟨E,ownsRow_setCell_below y (a:=(Ac O 6)) i _⟩,⟨I,ownsRow_setCell_below z (a:=(Ac O 6)) i _⟩,f.apart,fun p=>by cases p⟩
theorem RD.leave(h:RD O U cap T X m w s):RD O U cap T X (m.map Nm.leave) ((w.setCell ⟨O,5,none⟩ Aw).setCell ⟨O,6,none⟩ (Aa (-1))) s:=by
 have a:=h.rw;have g:=h.lt;have C:=h.tlt;obtain⟨L,t⟩:=KN.1 (a.ext 5 (.inl rfl));obtain⟨v6,u⟩:=KN.1 (a.ext 6 (.inr rfl));have c: ∀f:Addr,f≠(Ac O 5)->f≠(Ac O 6)->((w.setCell ⟨O,5,none⟩ Aw).setCell ⟨O,6,none⟩ (Aa (-1))).cell? f=w.cell? f:=fun f q r=>by rw[Bh _ _ _ _ (Ey r),Bh _ _ _ _ (Ey q)]
 have i:((w.setCell ⟨O,5,none⟩ Aw).setCell ⟨O,6,none⟩ (Aa (-1))).cell? (Ac O 5)=some Aw:=by rw[Bh _ _ _ _ (by simp)];exact DW _ _ _ t
 have j:((w.setCell ⟨O,5,none⟩ Aw).setCell ⟨O,6,none⟩ (Aa (-1))).cell? (Ac O 6)=some (Aa (-1)):=
  DW _ _ _ (by rw[Bh _ _ _ _ (by simp)];exact u)
 have l:((w.setCell ⟨O,5,none⟩ Aw).setCell ⟨O,6,none⟩ (Aa (-1))).heap.size=w.heap.size:=by simp[World.setCell]
 refine⟨⟨?_,?_,?_,?_,?_,?_,?_,a.ne,by rw[l];exact a.tlt,a.size,?_,?_⟩,?_,?_,g,C⟩
 ·rw[c _ (by simp) (by simp)];exact a.toks
 ·rw[c _ (by simp) (by simp),show CU (m.map Nm.leave)=CU m from by cases m<;>rfl];exact a.mode_
 ·rw[c _ (by simp) (by simp)];exact a.fault
 ·rw[c _ (by simp) (by simp)];exact a.place
 ·rw[c _ (by simp) (by simp)];exact a.dead
 ·intro o;rw[Cu,Cu];exact a.frz o
 ·intro F H z;rw[c _ (by intro b;cases b;exact a.ne rfl) (by intro b;cases b;exact a.ne rfl)];exact a.tok F H z
 ·intro G e;cases m with
  |none=>cases e
  |some n=>
   cases e;have d:=a.env n rfl;refine⟨?_,i,j,?_,.inl ⟨rfl,rfl⟩,d.gne,(by simp[Nm.leave,Value.ownBlock]),(fun y E=>(by cases E)),d.glen,(by show([]:List Sy).length<=601;simp),(fun K A=>(by cases A))⟩
   ·rw[c _ (by simp) (by simp)];exact d.gcell
   ·exact d.g.keep (by rw[l];exact AA _) (fun p k J o=>c _ (by intro b;cases b;exact d.gne k) (by intro b;cases b;exact d.gne k))
 ·intro o B;rcases B with rfl|rfl
  ·rw[i];rfl
  ·rw[j];rfl
 ·exact(h.par.setCell _ _).setCell _ _
 ·intro G e;cases m with
  |none=>cases e
  |some n=>
   cases e;have v:=h.own n rfl;obtain⟨I,D⟩:=v.g;exact⟨⟨I,ownsRow_setCell_below (ownsRow_setCell_below D (a:=(Ac O 5)) g _) (a:=(Ac O 6)) g _⟩,⟨[],World.ownsRow_nil _ _ _ _⟩,(fun p _ b=>(by simp[Nm.leave,Value.ownBlock] at b)),fun x=>by cases x⟩
variable{V:PS}
section
variable(h:RD O U cap T X (some n) w s)(M:s.code=0)(A:An T V)(nm:Af)(kind:Nat)
include h M A nm kind
theorem AbT(v:kind=0)(i:Option Addr)(k j args:Nat)
 (u:A9 n.E.here (Ad T V).text=none)(W:n.E.here.length<=600):
 Ah 125 #[Al O,Aa V.next,.bool true,EP nm kind i k j args] w fun f K=>f=.returned A6/\ ∃e,e.E=n.E.add true ⟨(Ad T V).text,kind,args⟩/\RD O U cap T X (some e) K s:=by
 have d:=h.rw.env n rfl;have Y:=h.rw.mode_;have x:=h.rw.lt;have ar:=h.rw.tlt;have N:=h.rw.fault;have aq:=h.rw.toks;have ap:=h.rw.size;have am:=d.gcell;have Q:=d.hcell;have ah:=h.rw.frz 5;have al:(V.next:Int)<T.length:=by unfold An at A;omega
 rw[M] at N;simp only[CU] at Y;have J:=QZ h.rw A;have z:(T.getD V.next default).text=(Ad T V).text:=rfl;rw[z] at J;clear z;have hF:=fun b(m:Ay w b)=>GV ((h.rw.below m).env n rfl).h d.hlen (Ad T V).text;rw[u] at hF;simp only[Es] at hF;obtain⟨I,p⟩:=(h.own n rfl).h;have aj:=h.base;obtain⟨ai,S,ae,af,ag⟩:=info_parts Tryz.infoCell;have y:n.hv.ownBlock≠some O:=d.hne;have ao:n.hv.ownBlock≠some w.heap.size:=fun f=>by have:=(p.lt _ f).2;omega
 have aa: ∀a B,((w.alloc a).alloc B).drew.heap[w.heap.size+1]? =some B:=fun a B=>by have r:=heap_alloc_new (w.alloc a) B;rw[show(w.alloc a).heap.size=w.heap.size+1 from by simp] at r;exact r
 have t: ∀a B,((w.alloc a).alloc B).drew.cell? (Ac O 5)=some n.hv:=fun a B=>by show((w.alloc a).alloc B).cell? (Ac O 5)=some n.hv;rw[((Ee w a).trans ((Ee (w.alloc a) B).mono (by simp))).cell (p:=Ac O 5) x];exact Q
 have D: ∀a B,((w.alloc a).alloc B).drew.frozen? (Ac O 5)=false:=fun a B=>by show((w.alloc a).alloc B).frozen? (Ac O 5)=false;rw[((Ee w a).trans ((Ee (w.alloc a) B).mono (by simp))).frozen (p:=Ac O 5) x];exact ah
 have G:Hid (∀a B,((w.alloc a).alloc B).drew.cell? (Ac O 5)=some n.hv):=t;have H:Hid (∀a B,((w.alloc a).alloc B).drew.frozen? (Ac O 5)=false):=D;clear t D
 have F:Hid (∀(b c:World)(g Z:Nat),Ay w b->b.ownsRow X.heap.size 207 6 n.hv n.E.here.length I->
  c.ownsRow X.heap.size 207 6 (Ar g (n.E.here.length+1) Z) (n.E.here.length+1) (I++[.string (Ad T V).text,Aa kind,.slice i k j,Aa args,Aw,Aa 0])->
  b.grownBy c n.hv.ownBlock->(n.hv.ownBlock=some g\/g=b.heap.size)->
  ∃e,e.E=n.E.add true ⟨(Ad T V).text,kind,args⟩/\RD O U cap T X (some e) (c.setCell ⟨O,5,none⟩ (Ar g (n.E.here.length+1) Z)) s):=by
  show∀b c g Z,_;intro b c g Z m ab ac P l;exact⟨_,rfl,(h.below m).addHere ⟨(Ad T V).text,kind,args⟩ _ _ _ v W ab ac P l⟩
 generalize(Ad T V).text=E at*;generalize n.E.here.length=len at*;generalize n.hv=C at*;clear u d v;unfold EP;go_enter func125,ntmps125;go_wp2_with(first|(go_at_call 152;refine(hF _ (Ee _ _)).mono ?_;rintro f R⟨rfl,q⟩;obtain rfl:=q.symm;clear q))
 go_region_law
  ((refine step_append_lies _ (by rfl) _ _ _ (by rfl) X.heap.size 207 ai _ 6 88 underlying124 S ae af ag rfl (by omega) C len I (by rfl) (((p.alloc _).alloc _).drew)
     (Ac (w.heap.size+1) 0) 1 1 [.string E,Aa kind,.slice i k j,Aa args,Aw,Aa 0] (by rfl) (by rfl) (World.news_of_block (cs:= #[.string E,Aa kind,.slice i k j,Aa args,Aw,Aa 0]) (t:=207) (fr:=(0,0)) (aa _ _)) (by simp[Value.oneCell'])
     (by omega) (by unfold maxLen;omega) (by omega) (by simp;omega) (w.heap.size+2) (by simp) ?_;intro L Z R ad o l an;have au:R.cell? (Ac O 5)=some C:=(by rw[o.cell_far _ (by simp;omega) (Ey y)];exact G.out _ _);have ak:R.frozen? (Ac O 5)=false:=(by rw[o.frozen_far _ (by simp;omega) (Ey y)];exact H.out _ _)))
 all_goals go_wp2
 all_goals go_end0
 all_goals exact⟨rfl,F.out _ _ L Z ((AP.alloc (by simp) _).drew) (((p.alloc _).alloc _).drew) ad o (by simpa using l)⟩
theorem AbS(i:Option Addr)(k j args:Nat)
 (u:A9 n.E.glob (Ad T V).text=none)(S:n.E.glob.length<=600):
 Ah 125 #[Al O,Aa V.next,.bool false,EP nm kind i k j args] w fun f K=>f=.returned A6/\ ∃e,e.E=n.E.add false ⟨(Ad T V).text,kind,args⟩/\RD O U cap T X (some e) K s:=by
 have d:=h.rw.env n rfl;have W:=h.rw.mode_;have v:=h.rw.lt;have aq:=h.rw.tlt;have L:=h.rw.fault;have ap:=h.rw.toks;have ao:=h.rw.size;have P:=d.gcell;have al:=d.hcell;have ag:=h.rw.frz 4;have ak:(V.next:Int)<T.length:=by unfold An at A;omega
 rw[M] at L;simp only[CU] at W;have H:=QZ h.rw A;have y:(T.getD V.next default).text=(Ad T V).text:=rfl;rw[y] at H;clear y;have hF:=fun b(m:Ay w b)=>GV ((h.rw.below m).env n rfl).g d.glen (Ad T V).text;rw[u] at hF;simp only[Es] at hF;obtain⟨I,p⟩:=(h.own n rfl).g;have ai:=h.base;obtain⟨ah,Q,ad,ae,af⟩:=info_parts Tryz.infoCell;have x:n.gv.ownBlock≠some O:=d.gne;have an:n.gv.ownBlock≠some w.heap.size:=fun f=>by have:=(p.lt _ f).2;omega
 have Y: ∀a B,((w.alloc a).alloc B).drew.heap[w.heap.size+1]? =some B:=fun a B=>by have r:=heap_alloc_new (w.alloc a) B;rw[show(w.alloc a).heap.size=w.heap.size+1 from by simp] at r;exact r
 have t: ∀a B,((w.alloc a).alloc B).drew.cell? (Ac O 4)=some n.gv:=fun a B=>by show((w.alloc a).alloc B).cell? (Ac O 4)=some n.gv;rw[((Ee w a).trans ((Ee (w.alloc a) B).mono (by simp))).cell (p:=Ac O 4) v];exact P
 have C: ∀a B,((w.alloc a).alloc B).drew.frozen? (Ac O 4)=false:=fun a B=>by show((w.alloc a).alloc B).frozen? (Ac O 4)=false;rw[((Ee w a).trans ((Ee (w.alloc a) B).mono (by simp))).frozen (p:=Ac O 4) v];exact ag
 have F:Hid (∀a B,((w.alloc a).alloc B).drew.cell? (Ac O 4)=some n.gv):=t;have G:Hid (∀a B,((w.alloc a).alloc B).drew.frozen? (Ac O 4)=false):=C;clear t C
 have E:Hid (∀(b c:World)(g Z:Nat),Ay w b->b.ownsRow X.heap.size 207 6 n.gv n.E.glob.length I->
  c.ownsRow X.heap.size 207 6 (Ar g (n.E.glob.length+1) Z) (n.E.glob.length+1) (I++[.string (Ad T V).text,Aa kind,.slice i k j,Aa args,Aw,Aa 0])->
  b.grownBy c n.gv.ownBlock->(n.gv.ownBlock=some g\/g=b.heap.size)->
  ∃e,e.E=n.E.add false ⟨(Ad T V).text,kind,args⟩/\RD O U cap T X (some e) (c.setCell ⟨O,4,none⟩ (Ar g (n.E.glob.length+1) Z)) s):=by
  show∀b c g Z,_;intro b c g Z m aa ab N l;exact⟨_,rfl,(h.below m).addGlob ⟨(Ad T V).text,kind,args⟩ _ _ _ rfl S aa ab N l⟩
 generalize(Ad T V).text=D at*;generalize n.E.glob.length=len at*;generalize n.gv=z at*;clear u d;unfold EP;go_enter func125,ntmps125;go_wp2_with(first|(go_at_call 152;refine(hF _ (Ee _ _)).mono ?_;rintro f R⟨rfl,q⟩;obtain rfl:=q.symm;clear q))
 go_region_law
  ((refine step_append_lies _ (by rfl) _ _ _ (by rfl) X.heap.size 207 ah _ 6 88 underlying124 Q ad ae af rfl (by omega) z len I (by rfl) (((p.alloc _).alloc _).drew)
     (Ac (w.heap.size+1) 0) 1 1 [.string D,Aa kind,.slice i k j,Aa args,Aw,Aa 0] (by rfl) (by rfl) (World.news_of_block (cs:= #[.string D,Aa kind,.slice i k j,Aa args,Aw,Aa 0]) (t:=207) (fr:=(0,0)) (Y _ _)) (by simp[Value.oneCell'])
     (by omega) (by unfold maxLen;omega) (by omega) (by simp;omega) (w.heap.size+2) (by simp) ?_;intro J Z R ac o l am;have ar:R.cell? (Ac O 4)=some z:=(by rw[o.cell_far _ (by simp;omega) (Ey x)];exact F.out _ _);have aj:R.frozen? (Ac O 4)=false:=(by rw[o.frozen_far _ (by simp;omega) (Ey x)];exact G.out _ _)))
 all_goals go_wp2
 all_goals go_end0
 all_goals exact⟨rfl,E.out _ _ J Z ((AP.alloc (by simp) _).drew) (((p.alloc _).alloc _).drew) ac o (by simpa using l)⟩
end
theorem PG(h:RD O U cap T X m w s)(A:An T V)(a:Bool)(nm:Af)(kind:Nat)(t:a=true->kind=0)(d:Option Addr)(f e args:Nat)
 (u: ∀n,m=some n->s.code=0->(n.E.row a).length<=600):
 Ah 125 #[Al O,Aa V.next,.bool a,EP nm kind d f e args] w fun b K=>b=.returned A6/\ ∃p,Ax p=(BM T (Ax m) a V kind args s).1/\RD O U cap T X p K (BM T (Ax m) a V kind args s).2:=by
 cases m with
 |none=>
  refine(AbU h.rw V.next a nm kind d f e args).mono ?_;rintro b K⟨rfl,k⟩;exact⟨rfl,none,rfl,h.below k⟩
 |some n=>
  by_cases M:s.code=0
  ·cases c:A9 (n.E.row a) (Ad T V).text with
   |some v=>
    refine(AbR h.rw M A a nm kind d f e args (by rw[c];rfl)).mono ?_;rintro b K⟨rfl,q,r⟩;refine⟨rfl,some n,?_,?_⟩
    ·show some n.E=(if s.code=0 then(if(A9 (n.E.row a) (Ad T V).text).isSome then(some n.E,stop T 6 (Ad T V).pos) else _) else _).1;rw[Ag M,c];rfl
    ·show RD O U cap T X (some n) K (if s.code=0 then(if(A9 (n.E.row a) (Ad T V).text).isSome then(some n.E,stop T 6 (Ad T V).pos) else _) else _).2;rw[Ag M,c];exact h.step q r
   |none=>
    have i:BM T (Ax (some n)) a V kind args s=(some (n.E.add a ⟨(Ad T V).text,kind,args⟩),s):=by show(if s.code=0 then(if(A9 (n.E.row a) (Ad T V).text).isSome then _ else _) else _)=_;rw[Ag M,c];rfl
    rw[i];have o:=u n rfl M;cases a with
    |true=>
     refine(AbT h M A nm kind (t rfl) d f e args c o).mono ?_;rintro b K⟨rfl,g,l,j⟩;exact⟨rfl,some g,by show some g.E=_;rw[l],j⟩
    |false=>
     refine(AbS h M A nm kind d f e args c o).mono ?_;rintro b K⟨rfl,g,l,j⟩;exact⟨rfl,some g,by show some g.E=_;rw[l],j⟩
  ·refine(AbQ h.rw M V.next a nm kind d f e args).mono ?_;rintro b K⟨rfl,k⟩;have i:BM T (Ax (some n)) a V kind args s=(some n.E,s):=by show(if s.code=0 then _ else _)=_;rw[Ae M]
   rw[i];exact⟨rfl,some n,rfl,h.below k⟩
variable{B:Nat}{c c':Nat}{ins ins':Int}{C J:Value}{G G':List GC}{N:Value}{H:List GC}{K R w2:World}{vi D:Value}{S S':RS}
theorem RA.swapG(h:RA O U cap B T c ins C G N H w vi D S)(Y:w.heap.size<=K.heap.size){P:AW}(s: ∀a,P a->O<a/\ ∀y∈[N,D]++H.map GC.vv,y.ownBlock≠some a)(t: ∀a,a≠O->C.ownBlock≠some a-> ¬P a->a<w.heap.size->K.heap[a]? =w.heap[a]?)(M:GX O K (Dy U cap T.length J N ins' vi D B c' S'))(ab: ∀o,K.frozen? (Ac O o)=false)(Q:K.ownsRow (O+1) 207 6 J G'.length (G'.flatMap GC.row))(Z:Hn O K G' S'.gs)(L: ∀g∈G',K.ownsRow (O+1) 9 1 g.cv g.cs.length (g.cs.map .string))(F:(BO J N D G' H).Pairwise Df)(I: ∀i∈S'.gs,∀f∈i.2,VB f)(X:G1 G')(k:S'.here=S.here)(r:S'.input=S.input)(A:S'.out=S.out)(E:S'.used<=B):RA O U cap B T c' ins' J G' N H K vi D S':=by
 have ah:=h.lt;have v:=h.tlt;have V:=h.low;have q: ∀{b:TypeId}{x:Nat}{f:Value}{n:Nat}{z:List Value}(e:Nat),0<e->(BO C N D G H)[e]? =some f->f∈[N,D]++H.map GC.vv->w.ownsRow (O+1) b x f n z->K.ownsRow (O+1) b x f n z:=fun e ag aa W m=>Cq m fun a b=>t a (by have:=(m.lt a b).1;omega) (fun j=>KU h.apt (show(0:Nat)≠e by omega) (show(BO C N D G H)[0]? =some C from rfl) aa a j b) (fun p=>(s a p).2 _ W b) (m.lt a b).2;have u: ∀a,a<O->K.heap[a]? =w.heap[a]? :=fun a b=>t a (by omega) (fun j=>by have:=(V C (by unfold BO;simp) a j).1;omega) (fun p=>by have:=(s a p).1;omega) (by omega);refine⟨M,ab,fun e ac R=> ?_,v,h.siz,h.bud,E,⟨?_,h.inp.2⟩,Q,q 1 (by omega) rfl (by simp) h.hro,Z,⟨?_,fun a g l=> ?_⟩,?_,F,⟨fun i d=> ?_,by rw[r];exact h.bnd.2⟩,⟨X,h.nd.2⟩,L,h.cpi⟩
 ·rw[World.cell?_of_block (w:=w) (u U v)];exact h.tok e ac R
 ·rw[r];exact h.inp.1.kept Y fun a b=>u a (h.inp.2 a b)
 ·unfold RS.hs;rw[k];exact h.hv.1
 ·obtain⟨i,ad,ae,af⟩:=h.hv.2 a g l;exact⟨i,by unfold RS.hs;rw[k];exact ad,ae,q (3+G.length+a) (by omega) (Od l) (by simp only[BD,CD];exact .inr ⟨g,Ct l,rfl⟩) af⟩
 ·rw[A];exact q 2 (by omega) rfl (by simp) h.oro
 ·rcases BD.1 d with d|d
  ·exact I i d
  ·exact h.bnd.1 i (J6 _ (by unfold RS.hs at d⊢;rw[k] at d;exact d))
theorem PJ{g:GC}:(BO C N D (G++[g]) H).Perm (C::g.vv::g.cv::([N,D]++G.map GC.vv++H.map GC.vv++G.map GC.cv)):=by
 have a:BO C N D (G++[g]) H=C::(([N,D]++G.map GC.vv)++g.vv::(H.map GC.vv++G.map GC.cv++[g.cv])):=by unfold BO;simp
 rw[a];refine List.Perm.cons _ (Ru.trans (List.Perm.cons _ ?_));have:= @Ru _ g.cv ([N,D]++G.map GC.vv++(H.map GC.vv++G.map GC.cv)) [];simpa using this
theorem RA.addG(h:RA O U cap B T c ins C G N H w vi D S){g:GC}{l:List Int}(r:Ay w R)(p:R.ownsRow w.heap.size 3 1 g.vv l.length (l.map (.int .i64)))(K:g.cv=Aw)(X:g.cs=[])(x:R.grownBy w2 C.ownBlock)(P:w2.ownsRow (O+1) 207 6 J (G.length+1) (G.flatMap GC.row++g.row))(F: ∀a,J.ownBlock=some a->C.ownBlock=some a\/R.heap.size<=a)(ad: ∀k∈l,VB k)(ab:G1 (G++[g])):RA O U cap B T c ins J (G++[g]) N H (w2.setCell ⟨O,4,none⟩ J) vi D {S with glob:=S.glob++[⟨g.name,l⟩]}:=by
 have Z:=h.lt;have L:=h.low;have aj:=r.size;have ak:=x.size;have t:(∀y∈[N,D]++G.map GC.vv++H.map GC.vv++G.map GC.cv,Df C y)/\([N,D]++G.map GC.vv++H.map GC.vv++G.map GC.cv).Pairwise Df:=Hm.1 (show(C::([N,D]++G.map GC.vv++H.map GC.vv++G.map GC.cv)).Pairwise Df from h.apt);have E: ∀a,C.ownBlock=some a->O<a/\a<w.heap.size:=fun a d=>L C (by unfold BO;simp) a d;have z: ∀a,a≠O->C.ownBlock≠some a->a<R.heap.size->(w2.setCell ⟨O,4,none⟩ J).heap[a]? =R.heap[a]? :=fun a i u v=>by rw[Below.heap_setCell _ _ _ _ i];exact x.block a v (fun d=>u d.symm)
 have V:w2.heap[O]? =w.heap[O]? :=(x.block O (by omega) (fun d=>by have:=E _ d.symm;omega)).trans (r.block O Z);have m:=fun a d=>p.lt a d;have al:(w2.setCell ⟨O,4,none⟩ J).heap.size=w2.heap.size:=by simp[World.setCell]
 have M: ∀y∈[N,D]++G.map GC.vv++H.map GC.vv++G.map GC.cv,∀a,y.ownBlock=some a->O<a/\a<w.heap.size:=fun y b a d=>L y (F8 _ b) a d;have Q: ∀{d:TypeId}{W:Nat}{k:Value}{n:Nat}{I:List Value},k∈[N,D]++G.map GC.vv++H.map GC.vv++G.map GC.cv->w.ownsRow (O+1) d W k n I->(w2.setCell ⟨O,4,none⟩ J).ownsRow (O+1) d W k n I:=fun aa s=>Cq s fun f j=>(z f (by have:=(s.lt f j).1;omega) (fun e=>t.1 _ aa f e j) (by have:=(s.lt f j).2;omega)).trans (r.block f (s.lt f j).2);refine h.swapG (by omega) (P:=fun _=>False) (fun a d=>d.elim) (fun a i u _ v=>(z a i u (by omega)).trans (r.block a v)) ((h.cel.block V).set (o:=4) (by simp[Dy]) _) (fun o=>by rw[Cu,World.frozen?_of_block (w:=w) V];exact h.frz o) ?_ ⟨?_,fun a y b=> ?_⟩ (fun y b=> ?_) ?_ (fun y b k p=> ?_) ab rfl rfl rfl h.use
 ·rw[AG,Ph];simp only[Rn,List.flatMap_nil,IY];exact Cq P fun a d=>Below.heap_setCell _ _ _ _ (by have:=(P.lt a d).1;show a≠O;omega)
 ·have:=h.gv.1;unfold RS.gs at this⊢;simp at this⊢;omega
 ·have ae:RS.gs {S with glob:=S.glob++[⟨g.name,l⟩]}=S.gs++[(g.name,l)]:=by unfold RS.gs;simp
  have ac:S.gs.length=G.length:=h.gv.1.symm;rw[ae];by_cases d:a<G.length
  ·rw[CR d] at b;obtain⟨af,ag,ah,ai⟩:=h.gv.2 a y b;exact⟨af,by rw[CR (by omega)];exact ag,ah,Q (by simp only[BD,CD];exact .inl (.inl (.inr ⟨y,Ct b,rfl⟩))) ai⟩
  ·have Y:=(BH.1 b).1;simp at Y;have e:a=G.length:=by omega
   subst e;rw[CS (AA _),I2] at b;cases b;refine⟨(g.name,l),by rw[CS (by omega),ac,I2];rfl,rfl,?_⟩;exact QH (Cq p fun f j=>z f (by have:=(m f j).1;omega) (fun e=>by have:=(E _ e).2;have:=(m f j).1;omega) (m f j).2) (by omega)
 ·rcases BD.1 b with b|b
  ·exact Q (by simp only[BD,CD];exact .inr ⟨y,b,rfl⟩) (h.cvr y b)
  ·rw[Hk.1 b,K,X];exact World.ownsRow_nil _ _ _ _
 ·rw[PJ.pairwise_iff (fun h=>KT h),Hm,Hm,Hm];have A: ∀y,Df g.cv y:=fun y a d=>by rw[K] at d;cases d
  refine⟨fun y b a d e=> ?_,fun y b a d e=> ?_,fun y b=>A y,t.2⟩
  ·rcases C0.1 b with rfl|b
   ·rcases F a d with i|i
    ·have:=(E _ i).2;have:=(m a e).1;omega
    ·have:=(m a e).2;omega
   ·rcases C0.1 b with rfl|b
    ·exact A _ a e e
    ·rcases F a d with i|i
     ·exact t.1 y b a i e
     ·have:=(M y b a e).2;omega
  ·rcases C0.1 b with rfl|b
   ·exact A _ a e e
   ·have:=(M y b a e).2;have:=(m a d).1;omega
 ·have q:y∈S.gs++[(g.name,l)]:=by unfold RS.gs at b⊢;simpa using b
  rcases BD.1 q with q|q
  ·exact h.bnd.1 y (Iu _ q) k p
  ·rw[Hk.1 q] at p;exact ad k p
end
