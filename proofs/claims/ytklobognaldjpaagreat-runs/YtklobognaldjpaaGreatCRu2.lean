/- Plain: which of some things a raw number speaks of. Plain: w -/
import Derived.KernelRfl
import Derived.Laws.IdiomStrings
import Derived.Laws.Concat
import Derived.Test.YtklobognaldjpaaGreatCRn2
import Derived.Test.YtklobognaldjpaaGreatCRu0
import Derived.Laws.CopyOwn
import Derived.BigQuiet
set_option maxRecDepth 1000000
set_option maxHeartbeats 2000000
namespace Go.Proofs.YtklobognaldjpaaGreat
open Go.Proofs.Tryz
open Go.RowKit
def Ia(w:World)(v:Value)(O:List Int):Prop:=
 ∃c cap,v=.slice c O.length cap/\O.length<=1000000/\
  (O=[]\/ ∃a off,c=some (Ac a off)/\a<w.heap.size/\ ∀b,b<O.length->w.cell? (Ac a (off+b))=some (Aa (O.getD b 0)))
theorem Ia.below{w U:World}{v:Value}{O:List Int}(h:Ia w v O)(c:Ay w U):Ia U v O:=by
 obtain⟨f,cap,rfl,g,a⟩:=h;refine⟨f,cap,rfl,g,?_⟩;rcases a with a|⟨b,off,rfl,d,a⟩
 ·exact .inl a
 ·refine .inr ⟨b,off,rfl,CF d c.size,fun e i=> ?_⟩;rw[c.cell (p:=Ac b (off+e)) d];exact a e i
theorem Ia.nil(w:World):Ia w Aw []:=⟨none,0,rfl,by simp,.inl rfl⟩
theorem Ia.own{w:World}{base:Nat}{a:Option Addr}{cap:Nat}{O:List Int}(h:w.ownsRow base 3 1 (.slice a O.length cap) O.length (O.map (.int .i64)))(e:O.length<=1000000):Ia w (.slice a O.length cap) O:=by
 refine⟨a,cap,rfl,e,?_⟩;by_cases c:O=[]
 ·exact .inl c
 ·obtain⟨i,j,d,k,f⟩:=h.form (Mk.2 c);cases d;refine .inr ⟨i,0,rfl,f,fun g b=> ?_⟩;have:=h.cellAt g (by simpa using b);rw[NU,this,CC,Bb b];simp[List.getD,b]
def NV(w:World)(v:Value)(o:Nat×List Int×Nat):Prop:= ∃a,v=.agg #[Aa (o.1:Nat),a,Aa (o.2.2:Nat)]/\Ia w a o.2.1
theorem NV.below{w U:World}{v:Value}{o:Nat×List Int×Nat}(h:NV w v o)(a:Ay w U):NV U v o:=by obtain⟨b,rfl,h⟩:=h;exact⟨b,rfl,h.below a⟩
theorem En.c{w:World}{v:Value}{O:List Int}(h:En w v O)(c:O.length<=1000000):Ia w v O:=by obtain⟨a,cap,rfl,_,_,b⟩:=h;exact⟨a,cap,rfl,c,b⟩
theorem En.nil(w:World):En w Aw []:=⟨none,0,rfl,by simp,by simp,.inl rfl⟩
theorem Adi{b:World}{a:Nat}(d:a=b.heap.size)(O:List Int)(g:O.length<=1000)(e: ∀a∈O,-9223372036854775808<=a/\a<=9223372036854775807):
 En (b.alloc (.cells (O.map (Value.int .i64)).toArray 3)) (Ar a O.length O.length) O:=by
 subst d;refine⟨_,_,rfl,by unfold maxLen;omega,e,.inr ⟨_,0,rfl,by simp,fun f c=> ?_⟩⟩;rw[Cl b _ _ (0+f),NU];simp[List.getD,c]
theorem RK{a c:World}{b:Obj}(h:Below (a.alloc b).heap.size (a.alloc b) c):Ay a c:=
 AP.trans (h.mono (by simp))
theorem Abk{a d:World}{b c:Obj}(h:Below ((a.alloc b).alloc c).heap.size ((a.alloc b).alloc c) d):Ay a d:=
 RK (RK h)
theorem SW{a e:World}{c:Array Value}{d:TypeId}(h:Below (a.alloc (.cells c d)).heap.size (a.alloc (.cells c d)) e)(b:Nat):e.cell? (Ac a.heap.size b)=c[b]? :=by rw[h.cell (p:=Ac a.heap.size b) (by simp)];exact Cl a _ _ b
theorem WY{a f:World}{c:Array Value}{e:TypeId}{d:Obj}(h:Below ((a.alloc (.cells c e)).alloc d).heap.size ((a.alloc (.cells c e)).alloc d) f)(b:Nat):f.cell? (Ac a.heap.size b)=c[b]? :=
 SW (RK h) b
theorem Aad(a:World)(b c:Obj):Ay a ((a.alloc b).alloc c):=AP.alloc (by simp) _
theorem Ia.l{w:World}{v:Value}{O:List Int}(h:Ia w v O):GY w v O:=by obtain⟨a,cap,rfl,c,b⟩:=h;exact⟨a,cap,rfl,by unfold maxLen;omega,b⟩
theorem En.l{w:World}{v:Value}{O:List Int}(h:En w v O):GY w v O:=by obtain⟨a,cap,rfl,b,_,c⟩:=h;exact⟨a,cap,rfl,b,c⟩
theorem Xb(z A:Value)(b c:List Int)(w:World)(M:GY w z b)(O:GY w A c):
 Ah 56 #[z,A] w fun d U=>d=.returned (.bool (decide (b=c)))/\Ay w U:=by
 obtain⟨R,V,rfl,N,t⟩:=M;obtain⟨f,W,rfl,P,u⟩:=O;unfold maxLen at N P;have D:Hid _:=t;have E:Hid _:=u;clear t u;by_cases i:b.length=c.length
 ·have K:(b.length:Int)=c.length:=by omega
  go_enter func56,ntmps56;go_wp2;go_loopw [5] (fun n wr=> ∃a:Nat,n=Aa a/\a<=b.length/\Hid (b.take a=c.take a)/\Ay w wr) (fun n _=>b.length -(intOf n).toNat)
  case atStart=>exact⟨0,rfl,B6 _,rfl,Below.refl _ _⟩
  case round=>
   obtain⟨a,rfl,X,o,g⟩:=hrel;by_cases e:a<b.length
   ·rcases D.out with k|⟨p,v,rfl,I,r⟩
    ·rw[k] at e;simp at e
    rcases E.out with k|⟨q,y,rfl,J,s⟩
    ·rw[k] at i;simp at i;rw[i] at e;simp at e
    have m:a<c.length:=by omega
    have S:wr.cell? (Ac p (v+a))=some (Aa b[a]):=by rw[g.cell (p:=Ac p (v+a)) I,r a e];simp[List.getD,e]
    have T:wr.cell? (Ac q (y+a))=some (Aa c[a]):=by rw[g.cell (p:=Ac q (y+a)) J,s a m];simp[List.getD,m]
    have HS:Hid (b[a]=c[a]->b.take (a+1)=c.take (a+1)):=fun d=>by
     have F:b.take (a+1)=b.take a++[b[a]]:=by rw[Mp,Bb e];rfl
     have G:c.take (a+1)=c.take a++[c[a]]:=by rw[Mp,Bb m];rfl
     rw[F,G,o.out,d]
    have j:Hid (b[a]≠c[a]->b≠c):=fun h d=>h (by subst d;rfl);have Y:(a:Int)<(b.length:Int):=by omega
    have Z:(a:Int)<(c.length:Int):=by omega
    clear r s;generalize b[a]=x at*;generalize c[a]=Q at*;by_cases l:x=Q
    ·have C:Hid (b.take (a+1)=c.take (a+1)):=HS.out l;clear HS j;subst l;go_wp2;go_quiet(fail);go_wp2
     go_roundw
     case rel=>exact⟨a+1,by go_num,by omega,C.out,GG _ g⟩
     case measure=>simp[intOf];omega
    ·go_wp2;go_quiet(fail);go_wp2;go_ret;exact⟨C4 (fun f=>Ending.returned (.bool f)) (RV (j.out l)).symm,GG _ g⟩
   ·have H:a=b.length:=by omega
    subst H;have L:c.take b.length=c:=by rw[i,E7]
    have B:Hid (b=c):=by have:=o.out;rw[E7,L] at this;exact this
    go_wp2;go_ret;exact⟨C4 (fun f=>Ending.returned (.bool f)) (RX B.out).symm,g⟩
 ·have K: ¬(b.length:Int)=c.length:=by omega
  have j:Hid (b≠c):=fun d=>i (by rw[d]);go_enter func56,ntmps56;go_wp2;go_ret;exact⟨C4 (fun f=>Ending.returned (.bool f)) (RV j.out).symm,Below.refl _ _⟩
theorem Yg(a:Int)(w:World):Ah 40 #[Aa a] w fun b U=>b=.returned (Aa a)/\U=w:=by go_enter func40,ntmps40;go_wp2;go_ret;exact⟨rfl,rfl⟩
theorem AeD{k l:Value}{o:Nat×List Int×Nat}{w:World}(n:NV w k o)(p:NV w l o):
 Ah 43 #[k,l] w fun d U=>d=.returned (.bool true)/\Ay w U:=by
 obtain⟨j,rfl,f⟩:=n;obtain⟨v,rfl,g⟩:=p;obtain⟨h,out,i⟩:=o;dsimp only at f g⊢;have m:Hid (∀a b,Ah 56 #[j,v] ((w.alloc a).alloc b) fun d U=>d=.returned (.bool true)/\Below ((w.alloc a).alloc b).heap.size ((w.alloc a).alloc b) U):=fun a b=>by have:=Xb j v out out ((w.alloc a).alloc b) (f.below (Aad _ _ _)).l (g.below (Aad _ _ _)).l;rw[RX rfl] at this;exact this
 obtain⟨q,u,rfl,_⟩:=f;obtain⟨r,x,rfl,_⟩:=g;go_enter func43,ntmps43;go_wp2_with(go_at_call 56;refine NJ (m.out _ _) ?_;rintro d e⟨rfl,c⟩;have s:e.cell? (Ac w.heap.size 0)=some (Aa (h:Nat)):=WY c 0;have t:e.cell? (Ac w.heap.size 2)=some (Aa (i:Nat)):=WY c 2;have y:e.cell? (Ac (w.heap.size+1) 0)=some (Aa (h:Nat)):=(by have:=SW c 0;simpa using this);have z:e.cell? (Ac (w.heap.size+1) 2)=some (Aa (i:Nat)):=(by have:=SW c 2;simpa using this));go_quiet((go_at_call 40;refine Calls.quiet_of_same (Yg _ _)));go_wp2;go_ret;exact⟨rfl,GG _ (Abk c)⟩
def Gy(w:World)(g:Nat)(O:List Int):Prop:=w.heap[g]? =some (.cells (O.map (Value.int .i64)++[Value.int .i64 77,Value.int .i64 77]).toArray 3 (0,0))
section
variable{w:World}{g:Nat}{O:List Int}(h:Gy w g O)
include h
theorem Gy.row{base:Nat}(a:base<=g)(b:O.length+2<=maxLen):w.ownsRow base 3 1 (Ar g O.length (O.length+2)) O.length (O.map (.int .i64)):=
 ⟨by simp,.inr ⟨g,O.length+2,_,rfl,a,h,by omega,b,by simp,by simp⟩⟩
theorem Gy.cell(a:Nat):w.cell? (Ac g a)=(O.map (Value.int .i64)++[Value.int .i64 77,Value.int .i64 77])[a]? :=by unfold Gy at h;simp[World.cell?,h]
end
theorem Ad1{a:World}{g:Nat}{O:List Int}(h:a.heap[g]? =some (.cells (splice (List.replicate (O.length+2) (Value.int .i64 0)) 0 (O.map (Value.int .i64))).toArray 3 (0,0))):
 a.cell? (Ac g O.length)=some (Aa 0)/\a.frozen? (Ac g O.length)=false/\(a.setCell (Ac g O.length) (Aa 77)).cell? (Ac g (O.length+1))=some (Aa 0)/\(a.setCell (Ac g O.length) (Aa 77)).frozen? (Ac g (O.length+1))=false/\
  Gy ((a.setCell (Ac g O.length) (Aa 77)).setCell (Ac g (O.length+1)) (Aa 77)) g O:=by
 have o:splice (List.replicate (O.length+2) (Value.int .i64 0)) 0 (O.map (Value.int .i64))=O.map (Value.int .i64)++[Value.int .i64 0,Value.int .i64 0]:=by unfold splice;simp[List.drop_replicate]
 rw[o] at h;have e:=heap_setCell_same a g O.length _ _ (Aa 77) h;have f:=heap_setCell_same _ g (O.length+1) _ _ (Aa 77) e;have j: ∀(c:World)(d:List Value),c.heap[g]? =some (.cells d.toArray 3 (0,0))->(∀b,c.cell? (Ac g b)=d[b]?)/\ ∀b,c.frozen? (Ac g b)=false:=fun c d i=>⟨fun b=>by simp[World.cell?,i],fun b=>by simp[World.frozen?,i]⟩;have p:(O.map (Value.int .i64)++[Value.int .i64 0,Value.int .i64 0]).toArray.setIfInBounds O.length (Aa 77)=(O.map (Value.int .i64)++[Value.int .i64 77,Value.int .i64 0]).toArray:=by simp
 have q:(O.map (Value.int .i64)++[Value.int .i64 77,Value.int .i64 0]).toArray.setIfInBounds (O.length+1) (Aa 77)=(O.map (Value.int .i64)++[Value.int .i64 77,Value.int .i64 77]).toArray:=by simp
 rw[p] at e f;rw[q] at f;obtain⟨k,l⟩:=j _ _ h;obtain⟨m,n⟩:=j _ _ e;exact⟨by rw[k];simp,l _,by rw[m];simp,n _,f⟩
theorem Ad0(v:Value)(O:List Int)(w:World)(h:En w v O)(ab:O.length<=17592186044416):
 Ah 41 #[v] w fun d U=>d=.returned (Ar w.heap.size O.length (O.length+2))/\Hid (Gy U w.heap.size O)/\Ay w U:=by
 obtain⟨S,r,P,y,Q⟩:=info_parts Tryz.infoIntC;obtain⟨i,cap,rfl,_,_,q⟩:=h;have HS:Hid (O=[]\/ ∃b off,i=some (Ac b off)/\b<w.heap.size/\ ∀k,k<O.length->w.cell? (Ac b (off+k))=some (Aa (O.getD k 0))):=q;clear q;go_enter func41,ntmps41;go_upto_region 3 with(at_make;refine wpList_make_full _ rfl _ _ 23 rfl w.heap.size 3 S _ 1 underlying23 r P y .i64 .i64 _ _ (O.length+2) rfl rfl (by omega) (by omega) (by rw[Q];omega) (by unfold maxLen;omega) (AA _) ?_;intro l s c)
 have m:Hid (l.heap[w.heap.size]? =some (.cells (List.replicate (O.length+2) (Value.int .i64 0)).toArray 3 (0,0))):=by
  rcases s.2 with⟨d,_⟩|⟨g,Y,Ad,d,_,K,_,_,M,u⟩
  ·cases d
  ·cases d
   have C:Ad.toList=List.replicate (O.length+2) (Value.int .i64 0):=by
    have D:(madeCells (Value.cells (Aa 0)) ((O.length+2)*1)).toList=List.replicate (O.length+2) (Value.int .i64 0):=by rw[Mr];exact toList_madeCells_one _ _
    rw[D,I1 (by simp[M])] at u;exact u
   show _=_;rw[K,<-C]
 have f:Hid (Ay w l):=⟨c.os,c.tape,c.output,c.size,fun T L=>c.block T L (by simp)⟩
 have A:Hid (0<(O.map (Value.int .i64)).length->some (Ac w.heap.size 0)=some ((Ac w.heap.size 0):Addr)/\ ∃o,i=some o/\ ∀a v,(O.map (Value.int .i64))[a]? =some v->l.cell? (o.add a)=some v):=fun t=>by
  rcases HS.out with E|⟨b,off,rfl,H,J⟩
  ·rw[E] at t;simp at t
  ·refine⟨rfl,_,rfl,fun a v e=> ?_⟩;rw[CC] at e
   have j:a<O.length:=by
    by_cases F:a<O.length
    ·exact F
    ·rw[NQ (by omega)] at e;cases e
   rw[Bb j] at e
   have B:((Ac b off):Addr).add a=(Ac b (off+a)):=by
    cases a with
    |zero=>rfl
    |succ a=>simp[Addr.add]
   rw[B,f.out.cell (p:=Ac b (off+a)) H,J a j,<-e];simp[List.getD,j]
 clear s c HS;go_upto_region 4 with(refine wpList_copy_splice rfl _ _ 23 23 rfl 3 underlying23 (by rw[r];simp[y]) (some (Ac w.heap.size 0)) i (O.length+2) (O.length+2) O.length cap rfl rfl w.heap.size 0 (List.replicate (O.length+2) (Value.int .i64 0)) 3 m.out (O.map (Value.int .i64)) (by rw[BF];exact(UK (by omega)).symm) A.out (by simp) (by intro v N;obtain⟨x,_,rfl⟩:=CD.1 N;rfl) w.heap.size w f.out (AA _) ?_;intro V n I);obtain⟨W,Z,X,aa,p⟩:=Ad1 n.out;have z:Hid _:=p;have G:Ay w ((V.setCell (Ac w.heap.size O.length) (Aa 77)).setCell (Ac w.heap.size (O.length+1)) (Aa 77)):=(I.setCell (AA _) _).setCell (AA _) _;clear p m n f;generalize R:O.length=ac at*;go_wp2;go_ret;subst R;exact⟨rfl,z.out,G⟩
theorem Gy.ints{w:World}{g:Nat}{O:List Int}(h:Gy w g O)(b:O.length<=maxLen):GY w (Ar g O.length (O.length+2)) O:=by have c:g<w.heap.size:=(Ju.1 h).1;refine⟨_,_,rfl,b,.inr ⟨g,0,rfl,c,fun d a=> ?_⟩⟩;rw[NU,h.cell d,CR (by simpa using a),CC,Bb a];simp[List.getD,a]
theorem AiZ{g:Nat}{v:Value}{O:List Int}{w:World}(h:Gy w g O)(f:GY w v O)(m:O.length<=17592186044416):
 Ah 44 #[Ar g O.length (O.length+2),v] w fun a U=>a=.returned (.bool true)/\Ay w U:=by
 have e:g<w.heap.size:=(Ju.1 h).1;have b:=Xb _ _ O O w (h.ints (by unfold maxLen;omega)) f;rw[RX rfl] at b;have i:Hid (∀U,Ay w U->U.cell? (Ac g O.length)=some (Aa 77)/\U.cell? (Ac g (O.length+1))=some (Aa 77)):=fun U c=>by rw[c.cell (p:=Ac g O.length) e,c.cell (p:=Ac g (O.length+1)) e,h.cell,h.cell];simp
 obtain⟨j,cap,rfl,_,_⟩:=f;clear h;generalize O.length=n at*;go_enter func44,ntmps44;go_wp2_with(go_at_call 56;refine b.mono ?_;rintro a o⟨rfl,d⟩;obtain⟨k,l⟩:=i.out _ d);go_ret;exact⟨rfl,d⟩
def CX(w U:World)(x:Value):Prop:= ∀g a,g<w.heap.size->U.cell? (Ac g a)=w.cell? (Ac g a)\/U.cell? (Ac g a)=some x
theorem CX.below{w U:World}(h:Ay w U)(x:Value):CX w U x:=fun g b a=>.inl (h.cell (p:=Ac g b) a)
theorem CX.trans{w b d:World}{x:Value}(h:CX w b x)(f:CX b d x)(V:w.heap.size<=b.heap.size):CX w d x:=fun g c e=>by
 rcases f g c (by omega) with a|a
 ·rw[a];exact h g c e
 ·exact .inr a
theorem Ahi{P:Program}(w:World)(base:Nat)(l s e:TypeId)(d:TypeInfo)(C:Value)(bytes:Nat)(B:P.underlying l=some (.slice e))(u:P.info? e=some d)(O:d.zero=some C)
 (k:d.size=1)(K:d.bytes=bytes)(af:C.cells.size=1)
 (v:Value)(b:Nat)(f:List Value)(h:w.ownsRow base e 1 v b f)
 (m:Addr)(a o:Nat)(x:Value)(z: ∀c i,(List.replicate a x)[c]? =some i->w.cell? (m.add c)=some i)(W:x.oneCell'=true)
 (I:b+a<=maxLen)(L:(b+a)*bytes<=140737488355328)(Z:base<=w.heap.size):
 ∃n U,(Builtin.append_ #[l,l] s #[v,.slice (some m) a o]).run P w=.ok n U/\U.ownsRow base e 1 n (b+a) (f++List.replicate a x)/\U.ownsRow base e 1 v b f/\w.grownBy U v.ownBlock/\
  (n.ownBlock=v.ownBlock\/ ∀Q,n.ownBlock=some Q->w.heap.size<=Q)/\CX w U x:=by
 have y:(List.replicate a x).length=a*1:=by simp
 have E: ∀i∈List.replicate a x,i.oneCell'=true:=fun i ae=>by rw[(List.mem_replicate.1 ae).2];exact W
 obtain⟨n,U,A,X,p,F⟩:=Zj (P:=P) w base l s e d C 1 bytes B u O k K af (by decide) v b f h m a o _ y z E I L Z;refine⟨n,U,A,X,?_⟩;rcases h.2 with⟨rfl,rfl⟩|⟨g,cap,Ad,rfl,ag,q,ai,ah,aa,ak⟩
 ·exact⟨⟨h.1,.inl ⟨rfl,rfl⟩⟩,p,F,fun g c q=>.inl (World.cell?_of_block (w:=w) (p.block g q (by simp[Value.ownBlock])))⟩
 ·by_cases N:b+a<=cap
  ·obtain⟨am,r,Y,_⟩:=run_append_fits (P:=P) w base l s e d 1 B u k g b cap f h m a o _ y z E N;rw[A] at r;injection r with G D;subst G;subst D;have H:=Aha Y (k:=b) (by omega);have T:(f++List.replicate a x).take (b*1)=f:=by rw[<-h.1,List.take_left'];rfl
   rw[T] at H;refine⟨H,p,F,fun j c t=> ?_⟩;by_cases J:j=g
   ·subst J;have M:=run_append_room (P:=P) w l s e d B u j b cap Ad q m a o (List.replicate a x) (by rw[k];exact y) z E N (by rw[k,aa];simp;omega);rw[A] at M;injection M with _ V;have ab:U.heap[j]? =some (.cells (Ad.toList.take (b*d.size)++List.replicate a x++Ad.toList.drop (b*d.size+(List.replicate a x).length)).toArray e (0,0)):=by rw[V];exact setRow_heap w j Ad _ e _ q
    have S:U.cell? (Ac j c)=(Ad.toList.take (b*d.size)++List.replicate a x++Ad.toList.drop (b*d.size+(List.replicate a x).length))[c]? :=by simp[World.cell?,ab]
    have R:w.cell? (Ac j c)=Ad.toList[c]? :=by simp[World.cell?,q]
    have ac:(Ad.toList.take b).length=b:=by simp;omega
    rw[S,R,k,Mr,Ml];by_cases q1:c<b
    ·left;rw[DO,CR (by omega),List.getElem?_take,Ag q1]
    ·by_cases al:c<b+a
     ·right;rw[DO,CS (by omega),ac,CR (by simp;omega),AaK,Ag (by omega)]
     ·left;rw[CS (by simp;omega),Uz]
      congr 1
      simp;omega
   ·exact .inl (World.cell?_of_block (w:=w) (p.block j t (by simpa[Value.ownBlock] using J)))
  ·have ad: ∀c i,f[c]? =some i->w.cell? (((Ac g 0):Addr).add c)=some i:=h.cells (g:=g) rfl;subst K;have aj:b+a<=9223372036854775807:=by simp only[maxLen] at I;omega
   have r:=run_append_grow (P:=P) w l s e d C B u O (Ac g 0) b cap f (by rw[k];exact h.1) ad m a o _ (by rw[k];exact y) z (by omega) (by omega) (growslice_fits (by omega) L);rw[A] at r;injection r with G D;have t:Ay w U:=by rw[D];exact(Below.refl _ _).drew.alloc (AA _) _
   exact⟨JR h t,p,F,CX.below t x⟩
theorem Ul{e:Program}{w:World}{r:Array Oper}{t:List Oper}{o:Oper}{g:Act}{m:Exit->Act->World->Prop}(K:o.guard=none)(s y:Operand)(i:TypeId)
 (N:o.op=.call {callee:=.builtin .append,args:= #[s,y],argTypes:= #[i,i]})
 (base:Nat)(b:TypeId)(f:TypeInfo)(l:Value)(bytes:Nat)(R:e.underlying i=some (.slice b))(L:e.info? b=some f)(T:f.zero=some l)
 (Q:f.size=1)(I:f.bytes=bytes)(W:l.cells.size=1)
 (v:Value)(c:Nat)(j:List Value)(V:g.eval s=v)(O:w.ownsRow base b 1 v c j)
 (k:Addr)(a n:Nat)(x:Value)(S:g.eval y=.slice (some k) a n)(M: ∀p u,(List.replicate a x)[p]? =some u->w.cell? (k.add p)=some u)(z:x.oneCell'=true)
 (F:c+a<=maxLen)(J:(c+a)*bytes<=140737488355328)(H:base<=w.heap.size)
 (h: ∀d U,U.ownsRow base b 1 d (c+a) (j++List.replicate a x)->U.ownsRow base b 1 v c j->w.grownBy U v.ownBlock->(d.ownBlock=v.ownBlock\/ ∀q,d.ownBlock=some q->w.heap.size<=q)->CX w U x->wpList e r m t (g.put o.dst d) U):wpList e r m (o::t) g w:=by
 refine wpList_plain K fun X G=> ?_;obtain⟨d,U,P,A,B,C,D,E⟩:=Ahi (P:=e) w base i o.type b f l bytes R L T Q I W v c j O k a n x M z F J H;unfold Oper.wp execOp;simp only[N,resolve,invoke,builtin,Sem.run_bind,Sem.run_pure,Result.andThen_ok,List.map_toArray,Mm,NR,V,S,P];exact G _ _ (h d U A B C D E)
def Gx(w:World)(v:Value)(x:Int):Prop:= ∃b a d,v=.slice b a d/\a<=maxLen/\(a=0\/ ∃g,b=some (Ac g 0)/\g<w.heap.size/\ ∀c,c<a->w.cell? (Ac g c)=some (Aa x))
section
variable{w U:World}{v:Value}{x:Int}(h:Gx w v x)(V:w.heap.size<=U.heap.size)
include h V
theorem Gx.kept(j: ∀g,v.ownBlock=some g->g<w.heap.size-> ∀a,w.cell? (Ac g a)=some (Aa x)->U.cell? (Ac g a)=some (Aa x)):Gx U v x:=by
 obtain⟨c,l,d,rfl,k,b⟩:=h;refine⟨c,l,d,rfl,k,?_⟩;rcases b with b|⟨g,rfl,f,e⟩
 ·exact .inl b
 ·exact .inr ⟨g,rfl,by omega,fun a i=>j g rfl f a (e a i)⟩
theorem Gx.cx(c:CX w U (Aa x)):Gx U v x:=h.kept V fun g _ d e b=>by
 rcases c g e d with a|a
 ·rw[a];exact b
 ·exact a
end
theorem V9{w:World}{base:Nat}{v:Value}{n:Nat}{x:Int}(h:w.ownsRow base 3 1 v n (List.replicate n (Aa x)))(a:n<=maxLen):Gx w v x:=by
 rcases h.2 with⟨rfl,rfl⟩|⟨g,cap,Ad,rfl,_,b,_,_,_,_⟩
 ·exact⟨_,_,_,rfl,a,.inl rfl⟩
 ·refine⟨_,_,_,rfl,a,.inr ⟨g,rfl,(Ju.1 b).1,fun d c=> ?_⟩⟩;rw[h.cellAt d (by omega),AaK,Ag c]
structure EG(w:World)(wb lo:Nat)(vI:Value)(rs:List Value):Prop where
 cel:w.cell? (Ac wb 2)=some vI
 frz:w.frozen? (Ac wb 2)=false
 own:w.ownsRow lo 23 1 vI rs.length rs
 off:vI.ownBlock≠some wb
 full: ∀i v,rs[i]? =some v->Gx w v (5000000000+((i/4:Nat):Int))
 apt: ∀v∈rs,∀k,v.ownBlock=some k->k≠wb/\vI.ownBlock≠some k/\k<w.heap.size
theorem EG.below{w U:World}{b f:Nat}{i:Value}{g:List Value}(h:EG w b f i g)(a:Ay w U):EG U b f i g:=
 ⟨(a.cell (p:=Ac b 2) (De h.cel)).trans h.cel,(World.frozen?_of_block (w:=w) (a.block b (De h.cel))).trans h.frz,JR h.own a,h.off,fun k v j=>(h.full k v j).cx a.size (CX.below a _),fun v d e c=>⟨(h.apt v d e c).1,(h.apt v d e c).2.1,CF (h.apt v d e c).2.2 a.size⟩⟩
