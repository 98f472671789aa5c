/- Jobs in a heap: which method is meant; which job goes on fir -/
import Derived.Test.YtklobognaldjpaaGreatCCm1
import Derived.Deep.RegionHeld3
import Derived.Deep.RegionLaw
import Derived.BigRegion
import Derived.BigQuiet
import Derived.Deep.LoopGhost
import Derived.Deep.AppendLies
import Derived.Laws.OwnMore
set_option maxRecDepth 1000000
set_option maxHeartbeats 1000000
namespace Go.Proofs.YtklobognaldjpaaGreat
open Go.Proofs.Tryz
open Go.RowKit
def Jm(a:Nat):Value:=Al a
def N0(a b:Int×Int):Bool:=if a.1≠b.1 then decide (a.1<b.1) else decide (a.2<b.2)
theorem AaZ{a b:Nat}{x y:Int×Int}{w:World}(e:w.cell? (Ac a 0)=some (Aa x.2))(f:w.cell? (Ac a 3)=some (Aa x.1))(g:w.cell? (Ac b 0)=some (Aa y.2))(i:w.cell? (Ac b 3)=some (Aa y.1)):
 Ah 250 #[Al a,Al b] w fun j w'=>j=.returned (.bool (N0 x y))/\ ∃k,w'=w.drewN k:=by
 obtain⟨c,n⟩:=x;obtain⟨d,o⟩:=y;simp only at e f g i;by_cases h:c=d
 ·subst h;go_enter func250,ntmps250;go_wp2;go_quiet(fail);go_wp2;go_quiet(fail);go_wp2;go_ret;exact⟨by simp[N0],_,World.drewN_drewN _ _ _⟩
 ·have l:(c !=d)=true:=by simp[h]
  have m:decide (c=d)=false:=RV h;go_enter func250,ntmps250;go_wp2;go_quiet(fail);go_wp2;go_quiet(fail);go_wp2;go_ret;exact⟨by simp[N0,h],_,World.drewN_drewN _ _ _⟩
theorem Ad3{g n cap i a d e:Nat}{b c:Int×Int}{w:World}(V:i<n)(r:a<n)(p:w.cell? (Ac g i)=some (Al d))(gk:w.cell? (Ac g a)=some (Al e))(h:w.cell? (Ac d 0)=some (Aa b.2))(j:w.cell? (Ac d 3)=some (Aa b.1))(k:w.cell? (Ac e 0)=some (Aa c.2))(l:w.cell? (Ac e 3)=some (Aa c.1)):
 Ah 248 #[Ar g n cap,Aa (i:Nat),Aa (a:Nat)] w fun m w'=>m=.returned (.bool (N0 b c))/\ ∃f,w'=w.drewN f:=by
 have o:=fun f=>AaZ (w:=w.drewN f) (x:=b) (y:=c) h j k l;have q:(i:Int)<(n:Int):=by omega
 have s:(a:Int)<(n:Int):=by omega
 go_enter func248,ntmps248;go_wp2;go_quiet((go_at_call 250;refine Calls.quiet_of (o _)));go_wp2;go_ret;exact⟨rfl,_,rfl⟩
theorem Aix{g n cap i a d b:Nat}{w:World}(V:i<n)(m:a<n)(h:w.cell? (Ac g i)=some (Al d))(gk:w.cell? (Ac g a)=some (Al b))(e: ∀o,w.frozen? (Ac g o)=false):
 Ah 249 #[Ar g n cap,Aa (i:Nat),Aa (a:Nat)] w fun c w'=>c=.returned A6/\w'=((w.drew.setCell (Ac g i) (Al b)).setCell (Ac g a) (Al d)):=by
 have l:(i:Int)<(n:Int):=by omega
 have q:(a:Int)<(n:Int):=by omega
 have j:=e i;have k:=e a
 have p:(w.setCell (Ac g i) (Al b)).cell? (Ac g a)=some (Al b):=by
  by_cases c:a=i
  ·subst c;exact DW _ _ _ h
  ·rw[Bh _ _ _ _ (by intro f;cases f;exact c rfl)];exact gk
 go_enter func249,ntmps249;go_wp2;go_region;all_goals go_wp2
 all_goals go_end0
 all_goals exact⟨rfl,rfl⟩
def Ad2(O:Nat->Int×Int)(l:List Nat)(i j:Nat):Bool:=N0 (O (l.getD i 0)) (O (l.getD j 0))
def Ll(l:List Nat)(i j:Nat):List Nat:=(l.set i (l.getD j 0)).set j (l.getD i 0)
theorem Aiw(l:List Nat)(i j:Nat):(Ll l i j).length=l.length:=by simp[Ll]
structure HS(O:Nat->Int×Int)(g cap:Nat)(w:World)(l:List Nat):Prop where
 own:w.ownsRow 0 103 1 (Ar g l.length cap) l.length (l.map Jm)
 key: ∀b∈l,w.cell? (Ac b 0)=some (Aa (O b).2)/\w.cell? (Ac b 3)=some (Aa (O b).1)/\b≠g
section
variable{O:Nat->Int×Int}{g cap:Nat}{w w':World}{l:List Nat}
theorem HS.at(h:HS O g cap w l){i:Nat}(V:i<l.length):w.cell? (Ac g i)=some (Al (l.getD i 0)):=by rw[h.own.cellAt i (by omega),CC,Bb V];simp[List.getD,V,Jm]
theorem PO{l:List Nat}{i:Nat}(V:i<l.length):l.getD i 0∈l:=by simp[List.getD,V]
theorem HS.drew(h:HS O g cap w l)(a:Nat):HS O g cap (w.drewN a) l:=⟨h.own,h.key⟩
theorem AeU{i j a:Nat}(V:i<l.length)(X:j<l.length)(h:a∈Ll l i j):a∈l:=by
 unfold Ll at h;rcases Mo h with h|h
 ·rcases Mo h with h|h
  ·exact h
  ·rw[h];exact PO X
 ·rw[h];exact PO V
section
variable(h:HS O g cap w l){i j:Nat}(V:i<l.length)(X:j<l.length)
include h V X
theorem HS.swap:
 HS O g cap ((w.drew.setCell (Ac g i) (Al (l.getD j 0))).setCell (Ac g j) (Al (l.getD i 0))) (Ll l i j)/\Fr (fun a=>a=g) w ((w.drew.setCell (Ac g i) (Al (l.getD j 0))).setCell (Ac g j) (Al (l.getD i 0))):=by
 obtain⟨o,f⟩:=(h.own.drew).stored i (Al (l.getD j 0));obtain⟨p,k⟩:=o.stored j (Al (l.getD i 0))
 have hF:Fr (fun a=>a=g) w ((w.drew.setCell (Ac g i) (Al (l.getD j 0))).setCell (Ac g j) (Al (l.getD i 0))):=
  (Fr.of_below (Below.refl _ _).drew).trans ((Fr.of_grown (S:=fun a=>a=g) f rfl).trans (Fr.of_grown (S:=fun a=>a=g) k rfl))
 refine⟨⟨?_,fun a m=> ?_⟩,hF⟩
 ·rw[Aiw];have e:(Ll l i j).map Jm=((l.map Jm).set i (Al (l.getD j 0))).set j (Al (l.getD i 0)):=by unfold Ll;rw[J5,J5];rfl
  rw[e];exact p
 ·obtain⟨d,n,b⟩:=h.key a (AeU V X m);have c:=De d;exact⟨by rw[hF.cell c b 0];exact d,by rw[hF.cell c b 3];exact n,b⟩
theorem HS.less:Ah 248 #[Ar g l.length cap,Aa (i:Nat),Aa (j:Nat)] w fun e w'=>e=.returned (.bool (Ad2 O l i j))/\ ∃f,w'=w.drewN f:=by obtain⟨a,b,_⟩:=h.key _ (PO V);obtain⟨c,d,_⟩:=h.key _ (PO X);exact Ad3 (n:=l.length) (cap:=cap) V X (h.at V) (h.at X) a b c d
theorem HS.swaps:Ah 249 #[Ar g l.length cap,Aa (i:Nat),Aa (j:Nat)] w fun a w'=>a=.returned A6/\HS O g cap w' (Ll l i j)/\Fr (fun b=>b=g) w w':=by refine(Aix (n:=l.length) (cap:=cap) V X (h.at V) (h.at X) (fun c=>h.own.frozenAt c)).mono ?_;rintro a w'⟨rfl,rfl⟩;exact⟨rfl,h.swap V X⟩
end
end
theorem Tryz.infoJob:(prog.info? 103).map (fun i=>(i.zero,i.size,i.bytes))=some (some (.pointer none),1,8):=by kernel_rfl
@[go_sem] theorem Aj0 (v:Value) (w:World):(Instr.typeAssert (.iface 103 v) 20 103 false).run prog w=.ok v w:=by kernel_rfl
theorem Cq{w w':World}{base:Nat}{c:TypeId}{size:Nat}{v:Value}{e:Nat}{f:List Value}(h:w.ownsRow base c size v e f)(l: ∀b,v.ownBlock=some b->w'.heap[b]? =w.heap[b]?):w'.ownsRow base c size v e f:=by
 obtain⟨i,a⟩:=h;refine⟨i,?_⟩;rcases a with a|⟨g,cap,Ad,d,j,k,m⟩
 ·exact .inl a
 ·exact .inr ⟨g,cap,Ad,d,j,by rw[l g (by rw[d];rfl)];exact k,m⟩
theorem D9{w:World}{base:Nat}{e:TypeId}{size:Nat}{v:Value}{c:Nat}{j:List Value}(h:w.ownsRow base e size v c j): ∃d a,v=.slice d c a/\c<=a:=by
 rcases h.2 with⟨b,f⟩|⟨g,a,Ad,b,_,_,i,_⟩
 ·exact⟨none,0,by rw[b,f],by omega⟩
 ·exact⟨_,_,b,i⟩
theorem Aha{w:World}{base:Nat}{b:TypeId}{size g cap a:Nat}{c:List Value}(h:w.ownsRow base b size (Ar g a cap) a c){k:Nat}(l:k<=a):w.ownsRow base b size (Ar g k cap) k (c.take (k*size)):=by
 obtain⟨s,e⟩:=h;have m:k*size<=a*size:=UL _ l;rcases e with⟨d,_⟩|⟨r,q,Ad,p,i,j,t,f,n,o⟩
 ·cases d
 ·cases p;refine⟨by rw[It];omega,.inr ⟨g,cap,Ad,rfl,i,j,by omega,f,n,?_⟩⟩;rw[<-o,List.take_take,UK m]
def KM(O:Nat->Int×Int)(w:World)(a:Nat):Prop:=w.cell? (Ac a 0)=some (Aa (O a).2)/\w.cell? (Ac a 3)=some (Aa (O a).1)
theorem KM.lt{O:Nat->Int×Int}{w:World}{a:Nat}(h:KM O w a):a<w.heap.size:=De h.1
theorem KM.fr{O:Nat->Int×Int}{w w':World}{a:Nat}{b:AW}(h:KM O w a)(hF:Fr b w w')(c: ¬b a):KM O w' a:=
 ⟨by rw[hF.cell h.lt c 0];exact h.1,by rw[hF.cell h.lt c 3];exact h.2⟩
structure HQ(O:Nat->Int×Int)(U o:Nat)(v:Value)(w:World)(l:List Nat):Prop where
 cel:w.cell? (Ac U o)=some v
 frz:w.frozen? (Ac U o)=false
 own:w.ownsRow 0 103 1 v l.length (l.map Jm)
 ne:v.ownBlock≠some U
 key: ∀b∈l,KM O w b/\v.ownBlock≠some b/\b≠U
def Iw(U o:Nat)(w w':World):Prop:= ∀a,(a≠o->w'.cell? (Ac U a)=w.cell? (Ac U a))/\w'.frozen? (Ac U a)=w.frozen? (Ac U a)
theorem Iw.trans{U o:Nat}{b c d:World}(h:Iw U o b c)(f:Iw U o c d):Iw U o b d:=fun a=>⟨fun e=>((f a).1 e).trans ((h a).1 e),(f a).2.trans (h a).2⟩
theorem Iw.of_block{U o:Nat}{w w':World}(h:w'.heap[U]? =w.heap[U]?):Iw U o w w':=fun _=>⟨fun _=>World.cell?_of_block (w:=w) h,World.frozen?_of_block (w:=w) h⟩
theorem Iw.set(U o:Nat)(w:World)(v:Value):Iw U o w (w.setCell (Ac U o) v):=fun c=>⟨fun b=>Bh _ _ _ _ (by intro a;cases a;exact b rfl),Cu _ _ _ _⟩
section
variable{O:Nat->Int×Int}{U o:Nat}{v:Value}{w w':World}{l:List Nat}
theorem HQ.hs{g cap:Nat}(h:HQ O U o (Ar g l.length cap) w l):HS O g cap w l:=
 ⟨h.own,fun a b=>⟨(h.key a b).1.1,(h.key a b).1.2,fun c=>(h.key a b).2.1 (by rw[c];rfl)⟩⟩
theorem HQ.ofHs{g cap:Nat}{b:List Nat}(h:HQ O U o (Ar g l.length cap) w l)(f:HS O g cap w' b)(hF:Fr (fun a=>a=g) w w')(i:b.length=l.length)(j: ∀a∈b,a∈l):HQ O U o (Ar g b.length cap) w' b:=by
 have e:U≠g:=fun c=>h.ne (by rw[c];rfl);refine⟨by rw[hF.cell (De h.cel) e o,i];exact h.cel,?_,f.own,h.ne,fun a d=> ?_⟩
 ·rw[World.frozen?_of_block (w:=w) (hF.block U (De h.cel) e)];exact h.frz
 ·obtain⟨k,m,n⟩:=f.key a d;exact⟨⟨k,m⟩,fun c=>n (by simpa[Value.ownBlock] using c.symm),(h.key a (j a d)).2.2⟩
end
theorem GG{a:Nat}{b w:World}(c:Nat)(h:Below a b w):Below a b (w.drewN c):=⟨h.os,h.tape,h.output,h.size,h.block⟩
def GY(w:World)(v:Value)(a:List Int):Prop:=
 ∃c cap,v=.slice c a.length cap/\a.length<=maxLen/\(a=[]\/ ∃b off,c=some (Ac b off)/\b<w.heap.size/\ ∀i,i<a.length->w.cell? (Ac b (off+i))=some (Aa (a.getD i 0)))
def Ir(v:Value):Prop:= ∀c b a,v=.slice c b a->b<=a
theorem Ir.nil:Ir Aw:=fun b d c a=>by cases a;omega
theorem GY.below{w w':World}{v:Value}{e:List Int}(h:GY w v e)(c:Ay w w'):GY w' v e:=by
 obtain⟨f,cap,rfl,g,a⟩:=h;refine⟨f,cap,rfl,g,?_⟩;rcases a with a|⟨b,off,rfl,d,j⟩
 ·exact .inl a
 ·exact .inr ⟨b,off,rfl,CF d c.size,fun i V=>by rw[c.cell (p:=Ac b (off+i)) d];exact j i V⟩
