/- The reference's walk in memory; its smallest functions. The  -/
import Derived.Test.YtklobognaldjpaaGreatCRefTok5
import Derived.Test.YtklobognaldjpaaGreatCMc3
import Derived.Test.YtklobognaldjpaaGreatCSim4
import Derived.Test.YtklobognaldjpaaGreatCRu0
set_option maxHeartbeats 1000000
set_option maxRecDepth 100000
namespace Go.Proofs.YtklobognaldjpaaGreat
open Go.Proofs.Tryz
open Go.RowKit
def Fw(w:World)(e:Value)(d:List Sy):Prop:=
 (e=Aw/\d=[])\/ ∃a cap,e=Ar a d.length cap/\a<w.heap.size/\ ∀b c,d[b]? =some c->
  w.cell? (Ac a (b*6))=some (.string c.name)/\w.cell? (Ac a (b*6+1))=some (Aa c.kind)/\w.cell? (Ac a (b*6+3))=some (Aa c.args)
theorem Fw.keep{w O:World}{c:Value}{e:List Sy}(h:Fw w c e)(J:w.heap.size<=O.heap.size)(j: ∀a,c.ownBlock=some a->a<w.heap.size-> ∀o,O.cell? (Ac a o)=w.cell? (Ac a o)):Fw O c e:=by
 rcases h with h|⟨a,cap,rfl,d,k⟩
 ·exact .inl h
 ·refine .inr ⟨a,cap,rfl,CF d J,fun m n l=> ?_⟩;have b:=j a rfl d;obtain⟨f,g,i⟩:=k m n l;exact⟨by rw[b];exact f,by rw[b];exact g,by rw[b];exact i⟩
theorem Fw.lt{w:World}{c:Value}{d:List Sy}(h:Fw w c d): ∀a,c.ownBlock=some a->a<w.heap.size:=by
 rcases h with⟨rfl,_⟩|⟨a,cap,rfl,g,f⟩
 ·intro a b;simp[Value.ownBlock] at b
 ·intro e b;simp[Value.ownBlock] at b;omega
structure Nm where
 E:Ao
 gv:Value
 hv:Value
def Ax(m:Option Nm):Option Ao:=m.map (·.E)
def CU:Option Nm->Int
 |none=>0
 |some _=>1
def Es:Option Nat->Int
 |none=> -1
 |some a=>a
structure Pe(wb:Nat)(w:World)(n:Nm):Prop where
 gcell:w.cell? (Ac wb 4)=some n.gv
 hcell:w.cell? (Ac wb 5)=some n.hv
 ins:w.cell? (Ac wb 6)=some (Aa (Es n.E.inside))
 g:Fw w n.gv n.E.glob
 h:Fw w n.hv n.E.here
 gne:n.gv.ownBlock≠some wb
 hne:n.hv.ownBlock≠some wb
 vars: ∀y∈n.E.here,y.kind=0
 glen:n.E.glob.length<=601
 hlen:n.E.here.length<=601
 insOk: ∀k,n.E.inside=some k->k<n.E.glob.length
theorem Pe.keep{wb:Nat}{w O:World}{c:Nm}(h:Pe wb w c)(J:w.heap.size<=O.heap.size)
 (g:O.cell? (Ac wb 4)=w.cell? (Ac wb 4))(i:O.cell? (Ac wb 5)=w.cell? (Ac wb 5))(j:O.cell? (Ac wb 6)=w.cell? (Ac wb 6))
 (f: ∀a,(c.gv.ownBlock=some a\/c.hv.ownBlock=some a)->a≠wb->a<w.heap.size-> ∀o,O.cell? (Ac a o)=w.cell? (Ac a o)):Pe wb O c:=
 ⟨by rw[g];exact h.gcell,by rw[i];exact h.hcell,by rw[j];exact h.ins,
  h.g.keep J (fun a b e=>f a (.inl b) (fun d=>h.gne (d▸b)) e),h.h.keep J (fun a b e=>f a (.inr b) (fun d=>h.hne (d▸b)) e),h.gne,h.hne,h.vars,h.glen,h.hlen,h.insOk⟩
structure RW(wb U cap:Nat)(T:List Az)(m:Option Nm)(w:World)(s:PS):Prop where
 toks:w.cell? (Ac wb 0)=some (Ar U T.length cap)
 mode_:w.cell? (Ac wb 1)=some (Aa (CU m))
 fault:w.cell? (Ac wb 2)=some (Aa s.code)
 place:w.cell? (Ac wb 3)=some (Aa s.at_)
 dead:w.cell? (Ac wb 10)=some (.bool false)
 frz: ∀o,w.frozen? (Ac wb o)=false
 tok: ∀j u,(DN T)[j]? =some u->w.cell? (Ac U j)=some u
 ne:U≠wb
 tlt:U<w.heap.size
 size:T.length<=601
 env: ∀n,m=some n->Pe wb w n
 ext: ∀o,o=5\/o=6->(w.cell? (Ac wb o)).isSome=true
section
variable{wb U cap:Nat}{T:List Az}{m:Option Nm}
theorem RW.lt{w:World}{s:PS}(h:RW wb U cap T m w s):wb<w.heap.size:=De h.toks
theorem RW.below{w O:World}{s:PS}(h:RW wb U cap T m w s)(b:Ay w O):RW wb U cap T m O s:=by
 have c:=h.lt;have a: ∀o,O.cell? (Ac wb o)=w.cell? (Ac wb o):=fun o=>b.cell (p:=Ac wb o) c
 exact⟨by rw[a];exact h.toks,by rw[a];exact h.mode_,by rw[a];exact h.fault,by rw[a];exact h.place,by rw[a];exact h.dead,
  fun o=>by rw[b.frozen (p:=Ac wb o) c];exact h.frz o,
  fun d k f=>by rw[b.cell (p:=Ac U d) h.tlt];exact h.tok d k f,h.ne,CF h.tlt b.size,h.size,
  fun j g=>(h.env j g).keep b.size (a 4) (a 5) (a 6) (fun e _ _ c o=>b.cell (p:=Ac e o) c),fun o i=>by rw[a];exact h.ext o i⟩
theorem RW.alloc{w:World}{s:PS}(h:RW wb U cap T m w s)(o:Obj):RW wb U cap T m (w.alloc o) s:=h.below AP
theorem RW.grown{p w O:World}{x s:PS}{n:Value}(c:RW wb U cap T m p x)(h:RW wb U cap T m w s)(V:w.grownBy O n.ownBlock)(f: ∀k,n.ownBlock=some k->p.heap.size<=k):RW wb U cap T m O s:=by
 have e:=h.lt;have i:O.heap[wb]? =w.heap[wb]? :=V.block wb e (fun a=>by have:=f wb a.symm;have:=c.lt;omega);have q:O.heap[U]? =w.heap[U]? :=V.block U h.tlt (fun a=>by have:=f U a.symm;have:=c.tlt;omega);have a: ∀o,O.cell? (Ac wb o)=w.cell? (Ac wb o):=fun o=>World.cell?_of_block (w:=w) i
 exact⟨by rw[a];exact h.toks,by rw[a];exact h.mode_,by rw[a];exact h.fault,by rw[a];exact h.place,by rw[a];exact h.dead,
  fun o=>by rw[World.frozen?_of_block (w:=w) i];exact h.frz o,
  fun v y t=>by rw[World.cell?_of_block (w:=w) q];exact h.tok v y t,h.ne,CF h.tlt V.size,h.size,
  fun l j=>(h.env l j).keep V.size (a 4) (a 5) (a 6) (fun b r _ e o=>World.cell?_of_block (w:=w) (V.block b e (fun a=>by
   have z:=f b a.symm;have g:=c.env l j;rcases r with d|d
   ·have:=g.g.lt b d;omega
   ·have:=g.h.lt b d;omega))),fun o u=>by rw[a];exact h.ext o u⟩
end
theorem Uf: ∀(T:List Az)(i:Nat)(c:Az),T[i]? =some c-> ∀b,b<4->(DN T)[i*4+b]? =(KD c)[b]?
 |[],i,c,h,_,_=>by simp at h
 |a::T,0,c,h,b,f=>by simp at h;subst h;have d:DN (a::T)=KD a++DN T:=rfl;have e:(KD a).length=4:=rfl;rw[d,CR (by omega)];simp
 |a::T,i+1,c,h,b,f=>by have d:DN (a::T)=KD a++DN T:=rfl;have e:(KD a).length=4:=rfl;rw[d,CS (by omega),e];have:=Uf T i c (by simpa using h) b f;rw[<-this];congr 1;omega
section
variable{wb U cap:Nat}{T:List Az}{m:Option Nm}{w:World}{s:PS}(h:RW wb U cap T m w s)
include h
theorem RW.curCells(V:An T s):
 w.cell? (Ac U (s.next*4))=some (Aa (Ad T s).kind.r)/\w.cell? (Ac U (s.next*4+1))=some (Aa (Ad T s).val)/\
 w.cell? (Ac U (s.next*4+2))=some (Aa (Ad T s).pos)/\w.cell? (Ac U (s.next*4+3))=some (.string (Ad T s).text):=by
 have b:T[s.next]? =some (Ad T s):=by unfold Ad;rw[Dg,Bb V];rfl
 have a:=Uf T s.next (Ad T s) b;exact⟨h.tok _ _ ((a 0 (by omega)).trans rfl),h.tok _ _ ((a 1 (by omega)).trans rfl),h.tok _ _ ((a 2 (by omega)).trans rfl),h.tok _ _ ((a 3 (by omega)).trans rfl)⟩
theorem RW.setFault(c p f:Nat):RW wb U cap T m ((w.setCell (Ac wb 2) (Aa c)).setCell (Ac wb 3) (Aa p)) ⟨c,p,f⟩:=by
 have e:=h.ne;have b: ∀d:Addr,d≠(Ac wb 2)->d≠(Ac wb 3)->((w.setCell (Ac wb 2) (Aa c)).setCell (Ac wb 3) (Aa p)).cell? d=w.cell? d:=fun d i j=>by rw[Bh _ _ _ _ (Ey j),Bh _ _ _ _ (Ey i)]
 refine⟨?_,?_,?_,?_,?_,?_,?_,e,by simp[World.setCell];exact h.tlt,h.size,fun f l=>(h.env f l).keep (by simp[World.setCell]) (b _ (by simp) (by simp)) (b _ (by simp) (by simp)) (b _ (by simp) (by simp)) (fun s _ g _ o=>b _ (by intro a;cases a;exact g rfl) (by intro a;cases a;exact g rfl)),fun o n=>by rcases n with rfl|rfl<;>(rw[b _ (by simp) (by simp)];exact h.ext _ (by simp))⟩
 ·rw[Bh _ _ _ _ (by simp),Bh _ _ _ _ (by simp)];exact h.toks
 ·rw[Bh _ _ _ _ (by simp),Bh _ _ _ _ (by simp)];exact h.mode_
 ·rw[Bh _ _ _ _ (by simp)];exact DW _ _ _ h.fault
 ·exact DW _ _ _ (by rw[Bh _ _ _ _ (by simp)];exact h.place)
 ·rw[Bh _ _ _ _ (by simp),Bh _ _ _ _ (by simp)];exact h.dead
 ·intro o;rw[Cu,Cu];exact h.frz o
 ·intro q r k;rw[Bh _ _ _ _ (by intro a;cases a;exact e rfl),Bh _ _ _ _ (by intro a;cases a;exact e rfl)];exact h.tok q r k
theorem RW.at(a:Nat):RW wb U cap T m w {s with next:=a}:=
 ⟨h.toks,h.mode_,h.fault,h.place,h.dead,h.frz,h.tok,h.ne,h.tlt,h.size,h.env,h.ext⟩
end
def At(s:PS)(i:Int):Prop:=s.code=0->i=s.next
def Fx(T:List Az)(f:Af):Prop:=f.toList≠[]/\ ∀a∈T,(a.text.toList==f.toList)=true->a.kind=.sign\/a.kind=.keyword
section
variable{wb U cap:Nat}{T:List Az}{m:Option Nm}{w:World}{s:PS}
theorem Lc(h:RW wb U cap T m w s)(V:An T s):
 Ah 126 #[Al wb] w fun b O=>b=.returned (Aa ((T.length -1:Nat):Int))/\O=w:=by
 have e:=h.toks;have d:=h.size;have c:s.next<T.length:=V;have a:(((T.length -1:Nat)):Int)=(T.length:Int) -1:=by omega
 rw[a];clear a;go_enter func126,ntmps126;go_wp2;go_ret;exact⟨rfl,rfl⟩
theorem H8(h:RW wb U cap T m w s)(V:An T s)(c:Nat)(i:Int)(K:At s i):
 Ah 98 #[Al wb,Aa i,Aa c] w fun a O=>a=.returned (Aa ((AI T c s).next:Int))/\RW wb U cap T m O (AI T c s)/\As wb w O:=by
 have X:=h.fault;have u:=h.place;have x:=h.toks;have v:=h.size;have r:(s.next:Int)<T.length:=by unfold An at V;omega
 have p:=h.frz 2;have q:=h.frz 3;have t:=h.ne;obtain⟨e,f,k,g⟩:=h.curCells V;by_cases b:s.code=0
 ·obtain rfl:=K b;have a:AI T c s=⟨c,(Ad T s).pos,T.length -1⟩:=by simp[AI,b]
  rw[a];rw[b] at X;have j:=fun n=>h.setFault c (Ad T s).pos n;have d:=Lc (j (T.length -1)) (s:=⟨c,(Ad T s).pos,T.length -1⟩) (by show T.length -1<T.length;omega);clear a e f g;go_enter func98,ntmps98;go_wp2_with(go_at_call 126;refine d.mono ?_;rintro a o⟨rfl,l⟩);go_ret;exact⟨rfl,j _,((As.refl _ _).setCell _ _).setCell _ _⟩
 ·have a:AI T c s=⟨s.code,s.at_,T.length -1⟩:=by simp[AI,b]
  rw[a];have y:((s.code:Int)==0)=false:=by simp;omega
  have d:=Lc h V;clear a e f k g b;go_enter func98,ntmps98;go_wp2_with(go_at_call 126;refine d.mono ?_;rintro a o⟨rfl,l⟩);go_ret;exact⟨rfl,h.at _,As.refl _ _⟩
theorem Af7(a:TK):(a.r==3)=decide (a=.sign):=by cases a<;>rfl
theorem Af6(a:TK):(a.r==0)=decide (a=.keyword):=by cases a<;>rfl
theorem PD(V:An T s):Ad T s∈T:=by unfold Ad;rw[Dg,Bb V];exact D4 V
section
variable(N:AR T)(h:RW wb U cap T m w s)(V:An T s)(J:Av T s)(i:Int)(K:At s i)(f:Af)(X:Fx T f)
include N h V J i K f X
theorem D3:
 Ah 94 #[Al wb,Aa i,.string f] w fun n O=>n=.returned (.bool (Aj T f s))/\O=w:=by
 have o:=h.fault;have v:=h.toks;have u:=h.size;have t:(s.next:Int)<T.length:=by unfold An at V;omega
 obtain⟨c,e,g,m⟩:=h.curCells V;by_cases b:s.code=0
 ·obtain rfl:=K b;rw[b] at o;have k:=Af7 (Ad T s).kind;have j:=Af6 (Ad T s).kind;cases d:Aj T f s with
  |true=>
   have a:=X.2 _ (PD V) d;have p:((Ad T s).text.toList==f.toList)=true:=d;clear e g d b;rcases a with a|a
   ·rw[a] at c;clear k j a;simp only[TK.r] at c;go_enter func94,ntmps94;go_wp2;go_ret;exact⟨rfl,rfl⟩
   ·rw[a] at c;clear k j a;simp only[TK.r] at c;go_enter func94,ntmps94;go_wp2;go_ret;exact⟨rfl,rfl⟩
  |false=>
   have p:((Ad T s).text.toList==f.toList)=false:=d;clear e g d b;generalize(Ad T s).kind.r=l at*;clear k j;cases r:(l==3) with
   |true=>
    go_enter func94,ntmps94;go_wp2;go_ret;exact⟨rfl,rfl⟩
   |false=>
    cases q:(l==0) with
    |true=>
     go_enter func94,ntmps94;go_wp2;go_ret;exact⟨rfl,rfl⟩
    |false=>
     go_enter func94,ntmps94;go_wp2;go_ret;exact⟨rfl,rfl⟩
 ·have x:((s.code:Int)==0)=false:=by simp;omega
  rw[IT N J b X.1];clear c e g m b;go_enter func94,ntmps94;go_wp2;go_ret;exact⟨rfl,rfl⟩
theorem FD:
 Ah 123 #[Al wb,Aa i,.string f] w fun a O=>a=.returned (Aa ((Am T f s).next:Int))/\RW wb U cap T m O (Am T f s)/\As wb w O:=by
 have c:=D3 N h V J i K f X;have k:=h.size;have j:s.next<T.length:=V;cases b:Aj T f s with
 |true=>
  rw[b] at c;obtain rfl:=K (Cp N J X.1 b);have a:Am T f s=Ab s:=by simp[Am,b]
  rw[a];have d:(((Ab s).next:Nat):Int)=(s.next:Int)+1:=by show((s.next+1:Nat):Int)=_;omega
  rw[d];clear a d b;go_enter func123,ntmps123;go_wp2_with(go_at_call 94;refine Aq c ?_);go_ret;exact⟨rfl,h.at _,As.refl _ _⟩
 |false=>
  rw[b] at c;have a:Am T f s=AI T 4 s:=by simp[Am,b]
  rw[a];clear a b;go_enter func123,ntmps123;go_wp2_with(first|(go_at_call 94;refine Aq c ?_)|(go_at_call 98;refine(H8 h V 4 i K).mono ?_;rintro a l⟨rfl,e,g⟩));go_ret;exact⟨rfl,e,g⟩
end
theorem XQ(m:Option Nm):(CU m==2)=false:=by cases m<;>rfl
def Hd(T:List Az)(a:TK)(s:PS):PS:=if AN T a s then Ab s else AI T 4 s
theorem Af5(a b:TK):(a.r !=b.r)= !decide (a=b):=by cases a<;>cases b<;>rfl
theorem LY(N:AR T)(h:RW wb U cap T m w s)(V:An T s)(J:Av T s)(i:Int)(K:At s i)(b:TK)(g:Int)(e:b.r=g)(c:b≠ .over\/s.code=0):
 Ah 124 #[Al wb,Aa i,Aa g] w fun a O=>a=.returned (Aa ((Hd T b s).next:Int))/\RW wb U cap T m O (Hd T b s)/\As wb w O:=by
 have u:=h.fault;have C:=h.toks;have B:=h.size;have z:(s.next:Int)<T.length:=by unfold An at V;omega
 obtain⟨o,p,q,r⟩:=h.curCells V;have k:=H8 h V 4 i K;cases d:AN T b s with
 |true=>
  have l:s.code=0:=by
   rcases c with c|c
   ·exact MF N J c d
   ·exact c
  obtain rfl:=K l
  have v:(Ad T s).kind.r=g:=by have:(Ad T s).kind=b:=by simpa[AN] using d
                               rw[this];exact e
  have a:Hd T b s=Ab s:=by simp[Hd,d]
  rw[a];have t:(((Ab s).next:Nat):Int)=(s.next:Int)+1:=by show((s.next+1:Nat):Int)=_;omega
  rw[t];rw[v] at o;rw[l] at u;clear a t d p q r v k e c l;go_enter func124,ntmps124;go_wp2;go_ret;exact⟨rfl,h.at _,As.refl _ _⟩
 |false=>
  have a:Hd T b s=AI T 4 s:=by simp[Hd,d]
  rw[a];have A:((Ad T s).kind.r !=g)=true:=by rw[<-e,Af5];simpa[AN] using d
  generalize(Ad T s).kind.r=y at*;clear a d p q r e c;by_cases f:s.code=0
  ·obtain rfl:=K f;rw[f] at u;clear f;go_enter func124,ntmps124;go_wp2_with(go_at_call 98;refine k.mono ?_;rintro a x⟨rfl,j,n⟩);go_ret;exact⟨rfl,j,n⟩
  ·have D:((s.code:Int) !=0)=true:=by simp;omega
   clear f o;go_enter func124,ntmps124;go_wp2_with(go_at_call 98;refine k.mono ?_;rintro a x⟨rfl,j,n⟩);go_ret;exact⟨rfl,j,n⟩
theorem Ht(h:RW wb U cap T m w s)(a:Bool):
 Ah 178 #[Al wb,.bool a] w fun b O=>b=.returned (.bool false)/\O=w:=by
 have e:=h.mode_;have c:=h.dead;have d:=XQ m;cases a with
 |true=>
  go_enter func178,ntmps178;go_wp2;go_ret;exact⟨rfl,rfl⟩
 |false=>
  go_enter func178,ntmps178;go_wp2;go_ret;exact⟨rfl,rfl⟩
theorem J1(h:RW wb U cap T m w s)(a:Bool):
 Ah 176 #[Al wb,.bool a] w fun b O=>b=.returned (.bool false)/\O=w:=by
 have c:=Ht h a;go_enter func176,ntmps176;go_wp2_with(go_at_call 178;refine Aq c ?_);go_ret;exact⟨rfl,rfl⟩
theorem Aac(a:Bool)(w:World):Ah 76 #[.bool a] w fun b O=> ∃c:Int,b=.returned (Aa c)/\O=w:=by
 cases a with
 |true=>
  go_enter func76,ntmps76;go_wp2;go_ret;exact⟨_,rfl,rfl⟩
 |false=>
  go_enter func76,ntmps76;go_wp2;go_ret;exact⟨_,rfl,rfl⟩
theorem TO(b:Int)(w:World):Ah 222 #[Aa b] w fun a O=> ∃c:Int,a=.returned (Aa c)/\O=w:=by
 go_enter func222,ntmps222;go_wp2;all_goals go_ret
 all_goals exact⟨_,rfl,rfl⟩
def Ek(T:List Az)(a:List Af)(s:PS):Af:=(a.find? fun f=>Aj T f s).getD ⟨#[]⟩
theorem Qv{wb j c:Nat}{w:World}{i:Int}(a:List Af)(u:a.length<=600)(o:FU w j a)(n: ∀f∈a,Ah 94 #[Al wb,Aa i,.string f] w fun k O=>k=.returned (.bool (Aj T f s))/\O=w):
 Ah 217 #[Al wb,Aa i,Ar j a.length c] w fun k O=>k=.returned (.string (Ek T a s))/\O=w:=by
 go_enter func217,ntmps217;go_wp2;go_loop [7,8] (fun ii _=> ∃b:Nat,b<=a.length/\ii=Aa b/\ ∀f∈a.take b,Aj T f s=false) (fun ii _=>a.length -(intOf ii).toNat)
 case atStart=>exact⟨0,B6 _,rfl,fun f X=>by simp at X⟩
 case round=>
  obtain⟨b,x,rfl,p⟩:=hrel;have h:Hid (∀f∈a.take b,Aj T f s=false):=p;clear p;by_cases m:b<a.length
  ·have v:w.cell? (Ac j b)=some (.string a[b]):=o b a[b] (Bb m);have t:Hid (a.take (b+1)=a.take b++[a[b]]):=NS m;have e:=n a[b] (D4 m);have q:Hid (a=a.take b++a[b]::a.drop (b+1)):=by show _=_;rw[UA,Rv]
   clear o n;generalize a[b]=l at*;cases d:Aj T l s with
   |true=>
    rw[d] at e;have g:Hid (Ek T a s=l):=by show _=_;unfold Ek;rw[q.out,List.find?_append,NO.2 (fun f X=>by rw[h.out f X];simp)];simp[d]
    clear d;go_wp2_with(go_at_call 94;refine Aq e ?_);go_ret;exact⟨by rw[g.out];rfl,rfl⟩
   |false=>
    rw[d] at e;have r:Hid (Aj T l s=false):=d;clear d;go_wp2_with(go_at_call 94;refine Aq e ?_)
    go_round
    case rel=>exact⟨b+1,by omega,by go_num,fun f X=>by
     rw[t.out,BD] at X;rcases X with X|X
     ·exact h.out f X
     ·simp at X;subst X;exact r.out⟩
    case measure=>simp[intOf];omega
  ·have g:Hid (Ek T a s=⟨#[]⟩):=by show _=_;unfold Ek;rw[NO.2 (fun f X=>by rw[h.out f (by rw[I1 (by omega)];exact X)];simp)];rfl
   go_wp2;go_ret;exact⟨by rw[g.out];rfl,rfl⟩
theorem TL(N:AR T)(h:RW wb U cap T m w s)(V:An T s)(J:Av T s)(i:Int)(K:At s i)(b c:Nat)(a:List Af)(e:a.length<=600)(g:FU w b a)(j: ∀f∈a,Fx T f):
 Ah 217 #[Al wb,Aa i,Ar b a.length c] w fun d O=>d=.returned (.string (Ek T a s))/\O=w:=
 Qv a e g fun f X=>D3 N h V J i K f (j f X)
end
def VB(a:Int):Prop:= -2147483648<=a/\a<=2147483647
structure GC where
 name:Af
 kind:Nat
 vv:Value
 args:Nat
 cv:Value
 body:Nat
 cs:List Af
def GC.row(a:GC):List Value:=[.string a.name,Aa (a.kind:Nat),a.vv,Aa (a.args:Nat),a.cv,Aa (a.body:Nat)]
def VK:Option Nat->Bool
 |some (_+1)=>true
 |_=>false
def Dy(U cap a:Nat)(Y Z:Value)(ins:Int)(vi I:Value)(B c:Nat)(S:RS):List Value:=
 [Ar U a cap,Aa 2,Aa 0,Aa 0,Y,Z,Aa ins,vi,Aa (B:Nat),Aa (c:Nat),.bool S.stop.isSome,.bool (VK S.stop),Aa ((S.stop.getD 0:Nat):Int),I,Aa (S.used:Nat)]
def Hn(wb:Nat)(w:World)(G:List GC)(d:List (Af×List Int)):Prop:=
 G.length=d.length/\ ∀(c:Nat)(b:GC),G[c]? =some b-> ∃a,d[c]? =some a/\a.1=b.name/\w.ownsRow (wb+1) 3 1 b.vv a.2.length (a.2.map (.int .i64))
def RS.gs(S:RS):List (Af×List Int):=S.glob.map fun a=>(a.name,a.vals)
def RS.hs(S:RS):List (Af×List Int):=S.here.map fun a=>(a.1,[a.2])
def G1(a:List GC):Prop:=(∀(i d:Nat)(b c:GC),a[i]? =some b->a[d]? =some c->b.name.toList=c.name.toList->i=d)/\a.length<=601
def Oq:Value->Option Nat
 |.slice (some a) (_+1) _=>some a.block
 |_=>none
structure RA(wb U cap B:Nat)(T:List Az)(c:Nat)(ins:Int)(Y:Value)(G:List GC)(Z:Value)(H:List GC)(w:World)(vi I:Value)(S:RS):Prop where
 cel:GX wb w (Dy U cap T.length Y Z ins vi I B c S)
 frz: ∀o,w.frozen? (Ac wb o)=false
 tok: ∀j u,(DN T)[j]? =some u->w.cell? (Ac U j)=some u
 tlt:U<wb
 siz:T.length<=601
 bud:B<=3000
 use:S.used<=B
 inp:GY w vi S.input/\ ∀k,Oq vi=some k->k<wb
 gro:w.ownsRow (wb+1) 207 6 Y G.length (G.flatMap GC.row)
 hro:w.ownsRow (wb+1) 207 6 Z H.length (H.flatMap GC.row)
 gv:Hn wb w G S.gs
 hv:Hn wb w H S.hs
 oro:w.ownsRow (wb+1) 3 1 I S.out.length (S.out.map (.int .i64))
 apt:([Y,Z,I]++G.map GC.vv++H.map GC.vv++G.map GC.cv).Pairwise Df
 bnd:(∀x∈S.gs++S.hs,∀v∈x.2,VB v)/\ ∀v∈S.input,VB v
 nd:G1 G/\G1 H
 cvr: ∀g∈G,w.ownsRow (wb+1) 9 1 g.cv g.cs.length (g.cs.map .string)
 cpi:Ir vi
section
variable{wb U cap B:Nat}{T:List Az}{c:Nat}{ins:Int}{Y:Value}{G:List GC}{Z:Value}{H:List GC}{w O:World}{vi I:Value}{S D:RS}
theorem RA.lt(h:RA wb U cap B T c ins Y G Z H w vi I S):wb<w.heap.size:=De (h.cel 0 _ rfl)
theorem GY.kept{w O:World}{d:Value}{a:List Int}(h:GY w d a)(J:w.heap.size<=O.heap.size)(k: ∀c,Oq d=some c->O.heap[c]? =w.heap[c]?):GY O d a:=by
 obtain⟨f,cap,rfl,g,b⟩:=h;refine⟨f,cap,rfl,g,?_⟩;rcases b with b|⟨e,off,rfl,l,j⟩
 ·exact .inl b
 cases a with
 |nil=>exact .inl rfl
 |cons m a=>
  exact .inr ⟨e,off,rfl,by omega,fun i K=>by rw[World.cell?_of_block (w:=w) (k e rfl)];exact j i K⟩
theorem Hn.kept{d:List (Af×List Int)}(h:Hn wb w G d)(e: ∀(b:Nat)(a:GC),G[b]? =some a-> ∀c,a.vv.ownBlock=some c->O.heap[c]? =w.heap[c]?):Hn wb O G d:=
 ⟨h.1,fun b a V=>by
  obtain⟨f,g,i,j⟩:=h.2 b a V
  exact⟨f,g,i,Cq j (e b a V)⟩⟩
section
variable(h:RA wb U cap B T c ins Y G Z H w vi I S)
include h
theorem RA.par{i:Nat}{q:Int}(n:As wb w O)(x:GX wb O (Dy U cap T.length Y Z q vi I B i D))(C: ∀o,O.frozen? (Ac wb o)=false)(j:D.glob=S.glob)(k:D.here=S.here)(l:D.input=S.input)(u:D.out=S.out)(v:D.used<=B):RA wb U cap B T i q Y G Z H O vi I D:=by
 have N:=h.lt;have f: ∀a,a≠wb->a<w.heap.size->O.heap[a]? =w.heap[a]? :=fun a z A=>n.block a A z;have c: ∀{b:TypeId}{s:Nat}{t:Value}{r:Nat}{d:List Value},w.ownsRow (wb+1) b s t r d->O.ownsRow (wb+1) b s t r d:=fun g=>Cq g fun a b=>f a (by have:=(g.lt a b).1;omega) (g.lt a b).2
 have p: ∀{G:List GC}{d:List (Af×List Int)},Hn wb w G d->Hn wb O G d:=fun m=>⟨m.1,fun a e V=>by
  obtain⟨J,K,L,M⟩:=m.2 a e V
  exact⟨J,K,L,c M⟩⟩
 refine⟨x,C,fun E F y=> ?_,h.tlt,h.siz,h.bud,v,⟨?_,h.inp.2⟩,c h.gro,c h.hro,?_,?_,?_,h.apt,?_,h.nd,fun e V=>c (h.cvr e V),h.cpi⟩
 ·rw[World.cell?_of_block (w:=w) (f U (by have:=h.tlt;omega) (by have:=h.tlt;omega))];exact h.tok E F y
 ·rw[l];exact h.inp.1.kept n.size fun a b=>f a (by have:=h.inp.2 a b;omega) (by have:=h.inp.2 a b;omega)
 ·unfold RS.gs;rw[j];exact p h.gv
 ·unfold RS.hs;rw[k];exact p h.hv
 ·rw[u];exact c h.oro
 ·unfold RS.gs RS.hs;rw[j,k,l];exact h.bnd
theorem RA.below(a:Ay w O):RA wb U cap B T c ins Y G Z H O vi I S:=
 h.par ⟨a.os,a.tape,a.output,a.size,fun d b _=>a.block d b⟩ (h.cel.block (a.block wb h.lt)) (fun o=>by rw[World.frozen?_of_block (w:=w) (a.block wb h.lt)];exact h.frz o) rfl rfl rfl rfl h.use
theorem Hu(a:Bool):Ah 178 #[Al wb,.bool a] w fun c O=>c=.returned (.bool (a&& !S.stop.isSome))/\O=w:=by
 have d:w.cell? (Ac wb 1)=some (Aa 2):=h.cel 1 _ rfl;have e:w.cell? (Ac wb 10)=some (.bool S.stop.isSome):=h.cel 10 _ rfl;clear h;generalize S.stop.isSome=b at*;cases a<;>cases b<;>
 ·go_enter func178,ntmps178;go_wp2;go_ret;exact⟨rfl,rfl⟩
end
theorem Kr(wb o:Nat)(w:World)(b:Value):As wb w (w.setCell (Ac wb o) b):=⟨rfl,rfl,rfl,by simp[World.setCell],fun c _ a=>Below.heap_setCell _ _ _ _ a⟩
theorem Mb(h:RA wb U cap B T c ins Y G Z H w vi I S)(J:S.stop=none)(a:Nat):Ah 179 #[Al wb,Aa (a:Nat)] w fun d O=>d=.returned A6/\Hid (RA wb U cap B T c ins Y G Z H O vi I (S.fail a))/\As wb w O:=by
 have l:w.cell? (Ac wb 10)=some (.bool false):=by have:=h.cel 10 _ rfl;rw[J] at this;exact this
 have q:=h.frz 10;have e:=h.cel.set (o:=10) (by simp[Dy]) (.bool true);have i:=Kr wb 10 w (.bool true);have b: ∀o,(w.setCell (Ac wb 10) (.bool true)).frozen? (Ac wb o)=false:=fun o=>by rw[Cu];exact h.frz o
 cases a with
 |zero=>
  have f:Hid (RA wb U cap B T c ins Y G Z H (w.setCell (Ac wb 10) (.bool true)) vi I (S.fail 0)):=h.par i (by
   have d:(Dy U cap T.length Y Z ins vi I B c S).set 10 (.bool true)=Dy U cap T.length Y Z ins vi I B c (S.fail 0):=by unfold Dy RS.fail;rw[J];rfl
   rw[<-d];exact e) b rfl rfl rfl rfl h.use
  clear h e b;go_enter func179,ntmps179;go_wp2;go_end0;exact⟨rfl,f.out,i⟩
 |succ a=>
  have g:=e.set (o:=11) (by simp[Dy]) (.bool true);have j:=g.set (o:=12) (by simp[Dy]) (Aa ((a+1:Nat):Int));have k:=(i.trans (Kr wb 11 _ (.bool true))).trans (Kr wb 12 _ (Aa ((a+1:Nat):Int)))
  have f:Hid (RA wb U cap B T c ins Y G Z H (((w.setCell (Ac wb 10) (.bool true)).setCell (Ac wb 11) (.bool true)).setCell (Ac wb 12) (Aa ((a+1:Nat):Int))) vi I (S.fail (a+1))):=h.par k (by
   have d:(((Dy U cap T.length Y Z ins vi I B c S).set 10 (.bool true)).set 11 (.bool true)).set 12 (Aa ((a+1:Nat):Int))=Dy U cap T.length Y Z ins vi I B c (S.fail (a+1)):=by unfold Dy RS.fail;rw[J];rfl
   rw[<-d];exact j) (fun o=>by rw[Cu,Cu];exact b o) rfl rfl rfl rfl h.use
  have n:=e 11 _ rfl;have r:=b 11;have p:=g 12 _ rfl;have s:((w.setCell (Ac wb 10) (.bool true)).setCell (Ac wb 11) (.bool true)).frozen? (Ac wb 12)=false:=by rw[Cu];exact b 12
  have t: ¬((a+1:Nat):Int)=0:=by omega
  clear h e g j b;generalize a+1=m at*;go_enter func179,ntmps179;go_wp2;go_end0;exact⟨rfl,f.out,k⟩
def RS.due(S:RS)(B:Nat)(a:Bool):RS:=if a&& !S.stop.isSome then S.unit B else S
section
variable(h:RA wb U cap B T c ins Y G Z H w vi I S)
include h
theorem Lm(e:Bool):Ah 176 #[Al wb,.bool e] w fun i O=>i=.returned (.bool (e&& !S.stop.isSome&& !(S.unit B).stop.isSome))/\Hid (RA wb U cap B T c ins Y G Z H O vi I (S.due B e))/\As wb w O:=by
 have d:=Hu h e;unfold RS.due;cases j:(e&& !S.stop.isSome) with
 |false=>
  rw[j] at d;have g:Hid (RA wb U cap B T c ins Y G Z H w vi I S):=h;clear h;go_enter func176,ntmps176;go_wp2_with(go_at_call 178;refine Aq d ?_);go_ret;exact⟨rfl,g.out,As.refl _ _⟩
 |true=>
  rw[j] at d
  have J:S.stop=none:=by
   cases s:S.stop with
   |none=>rfl
   |some A=>rw[s] at j;simp at j
  have v:w.cell? (Ac wb 8)=some (Aa (B:Nat)):=h.cel 8 _ rfl;have u:w.cell? (Ac wb 14)=some (Aa (S.used:Nat)):=h.cel 14 _ rfl;have x:=h.frz 14;have n:=h.below (Below.refl w.heap.size w).drew;by_cases m:B<=S.used
  ·have r:(S.used:Int)>=(B:Int):=by omega
   have b:S.unit B=S.fail 0:=by unfold RS.unit;rw[Ag m]
   rw[b];have q:=fun a=>Mb (h.below (GG (w:=w) a (Below.refl w.heap.size w))) J 0;clear h n b;go_enter func176,ntmps176;go_wp2_with(go_at_call 178;refine Aq d ?_);go_quiet(fail);go_wp2_with(go_at_call 179;refine(q _).mono ?_;rintro i z⟨rfl,p,f⟩);go_ret;exact⟨rfl,p.out,⟨f.os,f.tape,f.output,f.size,fun a l t=>f.block a l t⟩⟩
  ·have r: ¬(S.used:Int)>=(B:Int):=by omega
   have y:=h.bud;have b:S.unit B={S with used:=S.used+1}:=by unfold RS.unit;rw[Ae m]
   rw[b]
   have g:Hid (∀a,RA wb U cap B T c ins Y G Z H ((w.drewN a).setCell (Ac wb 14) (Aa ((S.used:Int)+1))) vi I {S with used:=S.used+1}):=fun a=>by
    have k:=h.below (GG (w:=w) a (Below.refl w.heap.size w))
    exact k.par (Kr wb 14 _ _) (by
     have i:(Dy U cap T.length Y Z ins vi I B c S).set 14 (Aa ((S.used:Int)+1))=Dy U cap T.length Y Z ins vi I B c {S with used:=S.used+1}:=rfl
     rw[<-i];exact k.cel.set (by simp[Dy]) _) (fun o=>by rw[Cu];exact k.frz o) rfl rfl rfl rfl (show S.used+1<=B by omega)
   clear h n b;simp only[J] at g⊢;go_enter func176,ntmps176;go_wp2_with(go_at_call 178;refine Aq d ?_);go_quiet(fail);go_wp2;go_ret;exact⟨rfl,g.out _,⟨rfl,rfl,rfl,by simp[World.setCell],fun a _ l=>Below.heap_setCell _ _ _ _ l⟩⟩
theorem RA.curCells{s:PS}(V:An T s):
 w.cell? (Ac U (s.next*4))=some (Aa (Ad T s).kind.r)/\w.cell? (Ac U (s.next*4+1))=some (Aa (Ad T s).val)/\w.cell? (Ac U (s.next*4+3))=some (.string (Ad T s).text):=by
 have b:T[s.next]? =some (Ad T s):=by unfold Ad;rw[Dg,Bb V];rfl
 have a:=fun d c=>Uf T s.next (Ad T s) b d c;exact⟨h.tok _ _ (a 0 (by omega)),h.tok _ _ (a 1 (by omega)),h.tok _ _ (a 3 (by omega))⟩
theorem Dw{s:PS}(V:An T s){i:Int}(K:i=s.next)(f:Af)(X:Fx T f):
 Ah 94 #[Al wb,Aa i,.string f] w fun e O=>e=.returned (.bool (Aj T f s))/\O=w:=by
 subst K;have m:w.cell? (Ac wb 2)=some (Aa 0):=h.cel 2 _ rfl;have p:w.cell? (Ac wb 0)=some (Ar U T.length cap):=h.cel 0 _ rfl;have o:=h.siz;have n:(s.next:Int)<T.length:=by unfold An at V;omega
 obtain⟨c,_,j⟩:=h.curCells V;clear h;cases b:Aj T f s with
 |true=>
  have a:=X.2 _ (PD V) b;have g:((Ad T s).text.toList==f.toList)=true:=b;clear b;rcases a with a|a<;>
  ·rw[a] at c;clear a;simp only[TK.r] at c;go_enter func94,ntmps94;go_wp2;go_ret;exact⟨rfl,rfl⟩
 |false=>
  have g:((Ad T s).text.toList==f.toList)=false:=b;clear b;generalize(Ad T s).kind.r=d at*;cases l:(d==3)<;>cases k:(d==0)<;>
  ·go_enter func94,ntmps94;go_wp2;go_ret;exact⟨rfl,rfl⟩
theorem GQ{s:PS}(V:An T s){i:Int}(K:i=s.next)(f:Af)(X:Fx T f)(c:Aj T f s=true):
 Ah 123 #[Al wb,Aa i,.string f] w fun b O=>b=.returned (Aa ((s.next:Int)+1))/\O=w:=by
 have a:=Dw h V K f X;rw[c] at a;subst K;have d:s.next<T.length:=V;have e:=h.siz;clear h;go_enter func123,ntmps123;go_wp2_with(go_at_call 94;refine Aq a ?_);go_ret;exact⟨rfl,rfl⟩
end
end
