/- The machine: units, jumps, places of arrays, operations. The -/
import Derived.Test.YtklobognaldjpaaGreatCMc3
import Derived.Deep.RegionHeld3
import Derived.Deep.RegionLaw
import Derived.BigRegion
set_option maxRecDepth 1000000
set_option maxHeartbeats 2000000
namespace Go.Proofs.YtklobognaldjpaaGreat
open Go.Proofs.Tryz
open Go.RowKit
theorem Wv{a:Int}(h: -2147483648<=a/\a<=2147483647):IntKind.i64.wrap a=a:=by
 have b:IntKind.i64.bits=64:=rfl;have c:IntKind.i64.signed=true:=rfl;have d:(2:Int)^64=18446744073709551616:=by decide
 have e:(2:Int)^(64 -1)=9223372036854775808:=by decide
 unfold IntKind.wrap;simp only[b,c,d,e];by_cases f:0<=a
 ·rw[Ae (by simp;omega)];omega
 ·rw[Ag (by simp;omega)];omega
theorem L8{b:List Int}(h:Ga b){a:Int}(c:b.getLast?=some a): -2147483648<=a/\a<=2147483647:=h a (List.mem_of_getLast? c)
section
variable{V Y wc U O:Nat}{W:List Nat}{Q:AW}{w I X:World}{m:MS}{waits:Bool}{R:MR}{Z:Value}
section
variable(h:MC V Y wc W Q w m U O waits R Z)
include h
theorem Ai0(b:m.used=U):
 Ah 104 #[Al V] w (A0 V Y wc W Q U O waits R w A6 (m.end_ 8) Z):=by
 have i:=h.usAt;have j:=h.fuAt;have g:((m.used:Int)==(U:Int))=true:=by simp[b]
 have a:=LP (h.below (Below.refl _ _).drew) 8;unfold A0 at a;clear b;go_enter func104,ntmps104;go_wp2;go_region;all_goals go_wp2_with(go_at_call 103;refine a.mono ?_;rintro f k⟨rfl,c,d,e⟩)
 all_goals go_end0
 all_goals exact⟨rfl,c,d,(MM.of_below (Below.refl _ _).drew).trans e⟩
theorem Ai3(i:m.used≠U)(b:m.used=O)(f:0<m.pc)(g:m.pc<=1000000):
 Ah 104 #[Al V] w (A0 V Y wc W Q U O true R w A6 {m with pc:=m.pc -1} Z):=by
 have n:=h.usAt;have o:=h.fuAt;have p:=h.liAt;have k:((m.used:Int)==(U:Int))=false:=by simp;omega
 have l:((m.used:Int)==(O:Int))=true:=by simp[b]
 have a:=Ajf (h.below ((Below.refl _ _).drew).drew) f g;unfold A0 at a;clear i b;go_enter func104,ntmps104;go_wp2;go_region;all_goals go_wp2
 all_goals go_region
 all_goals go_wp2_with(go_at_call 133;refine a.mono ?_;rintro j q⟨rfl,c,d,e⟩)
 all_goals go_end0
 all_goals exact⟨rfl,c,d,(MM.of_below ((Below.refl _ _).drew).drew).trans e⟩
theorem Ai1(b:m.used≠U)(a:m.used≠O)(i:m.used<=1000000):
 Ah 104 #[Al V] w (A0 V Y wc W Q U O waits R w A6 {m with used:=m.used+1} Z):=by
 have e:=h.usAt;have f:=h.fuAt;have g:=h.liAt;have j:=h.frz 11;have c:((m.used:Int)==(U:Int))=false:=by simp;omega
 have d:((m.used:Int)==(O:Int))=false:=by simp;omega
 have HS:Hid _:=(h.below ((Below.refl _ _).drew).drew).setUsed (m.used+1);clear b a;go_enter func104,ntmps104;go_wp2;go_region;all_goals go_wp2
 all_goals go_region
 all_goals go_wp2
 all_goals go_end0
 all_goals exact⟨rfl,R,HS.out.1,(MM.of_below ((Below.refl _ _).drew).drew).trans HS.out.2⟩
theorem Ai4{f:Int}(j:m.stack.getLast?=some f)(p:m.stack.length<=1000000)(b:Nat):
 Ah 108 #[Al V,Aa (b:Nat)] w (A0 V Y wc W Q U O waits R w A6 (if f=0 then{m with pc:=b,stack:=m.stack.dropLast} else{m with stack:=m.stack.dropLast}) Z):=by
 have g:=JT h j p;unfold A0 at g;have HS: ∀c a,MC V Y wc W Q c {m with stack:=m.stack.dropLast} U O waits a Z->MC V Y wc W Q (c.setCell (Ac V 1) (Aa (b:Nat))) {m with pc:=b,stack:=m.stack.dropLast} U O waits a Z/\MM V a a c (c.setCell (Ac V 1) (Aa (b:Nat))):=fun c a n=>n.setPc b;by_cases d:f=0
 ·rw[Ag d];have o:(f==0)=true:=by simp[d]
  clear d j;generalize({m with pc:=b,stack:=m.stack.dropLast}:MS)=t at*;go_enter func108,ntmps108;go_wp2_with(go_at_call 106;refine g.mono ?_;rintro l q⟨rfl,a,e,i⟩;have r:=e.pcAt;have s:=e.frz 1;have k:Hid _:=HS _ _ e);go_end0;exact⟨rfl,a,k.out.1,i.trans k.out.2⟩
 ·rw[Ae d];have o:(f==0)=false:=by simp[d]
  clear j;go_enter func108,ntmps108;go_wp2_with(go_at_call 106;refine g.mono ?_;rintro l q⟨rfl,a,e,i⟩);go_end0;exact⟨rfl,a,e,i⟩
theorem AeV{a:Int}(l:m.stack.getLast?=some a)(x:m.stack.length<=1000000)(c q:Nat)(A:c<=2147483647):
 Ah 107 #[Al V,Aa (c:Nat),Aa (q:Nat)] w (A0 V Y wc W Q U O waits R w A6 (if a<0\/(q:Int)<=a then({m with stack:=m.stack.dropLast}:MS).end_ 9 else{m with stack:=m.stack.dropLast++[BW (c+a)]}) Z):=by
 have n:=JT h l x;have z:=L8 h.rows.rs l;have C:=Wv z;have B:=KZ ((c:Int)+a);have y:m.stack.dropLast.length<=1000000:=by rw[Ib];omega
 have o:=fun d b(p:MC V Y wc W Q d {m with stack:=m.stack.dropLast} U O waits b Z)=>LP p 9;have r:=fun d b(p:MC V Y wc W Q d {m with stack:=m.stack.dropLast} U O waits b Z)=>FS p (Ln ((c:Int)+a)) y;unfold A0 at n o r;by_cases u:a<0
 ·rw[Ag (.inl u)];clear l;go_enter func107,ntmps107;go_wp2_with(first|(go_at_call 106;refine n.mono ?_;rintro f s⟨rfl,b,g,j⟩)|(go_at_call 103;refine(o _ _ g).mono ?_;rintro f t⟨rfl,e,i,k⟩));go_end0;exact⟨rfl,e,i,j.trans k⟩
 ·by_cases v:(q:Int)<=a
  ·rw[Ag (.inr v)];clear l;go_enter func107,ntmps107;go_wp2_with(first|(go_at_call 106;refine n.mono ?_;rintro f s⟨rfl,b,g,j⟩)|(go_at_call 103;refine(o _ _ g).mono ?_;rintro f t⟨rfl,e,i,k⟩));go_end0;exact⟨rfl,e,i,j.trans k⟩
  ·rw[Ae (by omega)];have HQ: ∀d b,MC V Y wc W Q d (({m with stack:=m.stack.dropLast}:MS).push (BW ((c:Int)+a))) U O waits b Z->MC V Y wc W Q d {m with stack:=m.stack.dropLast++[BW ((c:Int)+a)]} U O waits b Z:=fun _ _ h=>h;clear l;generalize({m with stack:=m.stack.dropLast++[BW ((c:Int)+a)]}:MS)=D at*;go_enter func107,ntmps107;go_wp2_with(first|(go_at_call 106;refine n.mono ?_;rintro f s⟨rfl,b,g,j⟩)|(go_at_call 105;refine(r _ _ g).mono ?_;rintro f t⟨rfl,e,i,k⟩));go_end0;exact⟨rfl,e,HQ _ _ i,j.trans k⟩
end
theorem Ng(a:Bool)(w:World):Ah 134 #[.bool a] w fun b I=>b=.returned (.int .i32 (Cv a))/\I=w:=by
 cases a
 ·go_enter func134,ntmps134;go_wp2;go_ret;exact⟨rfl,rfl⟩
 ·go_enter func134,ntmps134;go_wp2;go_ret;exact⟨rfl,rfl⟩
section
variable(h:MC V Y wc W Q w m U O waits R Z)
include h
theorem AeS(e:m.calls.length=30)(d j:Nat):
 Ah 109 #[Al V,Aa (d:Nat),Aa (j:Nat)] w (A0 V Y wc W Q U O waits R w A6 (m.end_ 13) Z):=by
 have g:=h.caAt;obtain⟨l,n,b⟩:=GR h.rows.ca;rw[b,e] at g;have a:=LP h 13;unfold A0 at a;clear b;go_enter func109,ntmps109;go_wp2_with(go_at_call 103;refine a.mono ?_;rintro k o⟨rfl,c,f,i⟩);go_end0;exact⟨rfl,c,f,i⟩
theorem AeT(ap:m.calls.length≠30)(c b:Nat)(ay:b<=m.stack.length)(ar:m.stack.length<=1000000):
 Ah 109 #[Al V,Aa (c:Nat),Aa (b:Nat)] w (A0 V Y wc W Q U O waits R w A6 {m with pc:=c,calls:=m.calls++[(m.pc,m.base)],base:=m.stack.length -b} Z):=by
 have T:=h.rows.c30;have ao:m.calls.length<=29:=by omega
 obtain⟨aj,P,ag,ah,ai⟩:=info_parts Tryz.infoFrame;obtain⟨l,n,e⟩:=GR h.rows.ca;obtain⟨al,am,z⟩:=GR h.rows.st;have K:=h.caAt;have au:=h.pcAt;have av:=h.baAt;have A: ∀r,Ay w (w.alloc r).drew:=fun r=>AP.drew;have f:Hid (MC V Y wc W Q (w.alloc (.cells #[Aa (m.pc:Nat),Aa (m.base:Nat)] 228)).drew m U O waits R Z):=h.below (A _);have y:=f.out.rows.ca;have ad:R.ca.ownBlock≠some V:=fun i=>h.rows.xr (.inr (.inr (.inl i)));have a1:=h.rows.xlt;have aa:(w.alloc (.cells #[Aa (m.pc:Nat),Aa (m.base:Nat)] 228)).heap[w.heap.size]? =some (.cells #[Aa (m.pc:Nat),Aa (m.base:Nat)] 228):=heap_alloc_new w _;have ae:f.out.stAt=f.out.stAt:=rfl;clear ae
 have H:Hid (∀(X:World)(a d:Nat),(w.alloc (.cells #[Aa (m.pc:Nat),Aa (m.base:Nat)] 228)).drew.grownBy X R.ca.ownBlock->X.ownsRow 0 228 2 (Ar a (m.calls.length+1) d) (m.calls.length+1) (Fy m.calls++[Aa (m.pc:Nat),Aa (m.base:Nat)])->(R.ca.ownBlock=some a\/a=w.heap.size+1)->
  (X.cell? (Ac V 5)=some R.ca/\X.cell? (Ac V 3)=some (.slice al m.stack.length am)/\X.cell? (Ac V 4)=some (Aa (m.base:Nat))/\X.cell? (Ac V 1)=some (Aa (m.pc:Nat))/\(∀o,X.frozen? (Ac V o)=false))/\
  ∃g,MC V Y wc W Q (((X.setCell (Ac V 5) (Ar a (m.calls.length+1) d)).setCell (Ac V 4) (Aa ((m.stack.length -b:Nat):Int))).setCell (Ac V 1) (Aa (c:Nat))) {m with pc:=c,calls:=m.calls++[(m.pc,m.base)],base:=m.stack.length -b} U O waits g Z/\
   MM V R g w (((X.setCell (Ac V 5) (Ar a (m.calls.length+1) d)).setCell (Ac V 4) (Aa ((m.stack.length -b:Nat):Int))).setCell (Ac V 1) (Aa (c:Nat)))):=by
  intro X a d x ab q;obtain⟨j,L⟩:=f.out.cellsG x ad;refine⟨⟨j 5 _ rfl,(j 3 _ rfl).trans (by rw[z]),j 4 _ rfl,j 1 _ rfl,L⟩,?_⟩;have af:(w.alloc (.cells #[Aa (m.pc:Nat),Aa (m.base:Nat)] 228)).drew.heap.size=w.heap.size+1:=by show(w.alloc _).heap.size=_;simp
  have D:=f.out.callsTo (s':=m.calls++[(m.pc,m.base)]) x (by rw[AG,AcF];exact ab) (by
   rcases q with i|i
   ·exact .inl i.symm
   ·refine .inr fun ak S=> ?_;have:a=ak:=by simpa[Value.ownBlock] using S
    rw[af];omega) (by rw[AG];simp;omega)
  have E:=D.1.setBase (m.stack.length -b);have F:=E.1.setPc c;exact⟨_,F.1,(MM.of_below (A _)).trans (D.2.trans (E.2.trans F.2))⟩
 have aw:m.calls.length<=1000000:=by omega
 rw[e] at K;have an:Hid (R.ca=.slice l m.calls.length n):=e;have I:Hid (∀(X:World),X.cell? (Ac V 5)=some R.ca->X.cell? (Ac V 5)=some (.slice l m.calls.length n)):=fun X N=>by rw[N,e]
 rw[e] at y;have t:Hid (R.ca.ownBlock=(Value.slice l m.calls.length n).ownBlock):=by show _=_;rw[e]
 clear e z h T;generalize a0:m.calls.length=p at*;generalize az:m.stack.length=C at*;have aq:((p:Int)==30)=false:=by simp;omega
 have J:Hid (((C -b:Nat):Int)=(C:Int) -(b:Int)):=by show _=_;omega
 go_enter func109,ntmps109;go_wp2
 go_region_law
  ((refine step_append_lies _ (by rfl) _ _ _ (by rfl) 0 228 aj _ 2 16 underlying136 P ag ah ai rfl (by omega) (.slice l p n) p (Fy m.calls) (by rfl) y
     (Ac w.heap.size 0) 1 1 [Aa (m.pc:Nat),Aa (m.base:Nat)] (by rfl) (by rfl) (World.news_of_block (cs:= #[Aa (m.pc:Nat),Aa (m.base:Nat)]) (t:=228) (fr:=(0,0)) aa) (by simp[Value.oneCell'])
     (by omega) (by unfold maxLen;omega) (by omega) (B6 _) (w.heap.size+1) (by simp) ?_;intro a d X ac M q ax;obtain⟨⟨B,a2,a3,q1,k⟩,s⟩:=H.out X a d (by rw[t.out];exact M) ac (by rw[t.out];exact q);have G:Hid _:=s;clear s;replace B:=I.out X B;have a6:=k 5;have a5:=k 4;have a4:=k 1;clear k))
 all_goals go_wp2
 all_goals go_end0
 all_goals(obtain⟨g,u,v⟩:=G.out;rw[J.out] at u v;exact⟨rfl,g,u,v⟩)
theorem Ajs(d:m.out.length=60)(i:Int):
 Ah 111 #[Al V,.int .i32 i] w (A0 V Y wc W Q U O waits R w A6 (m.end_ 12) Z):=by
 have f:=h.ouAt;obtain⟨k,l,b⟩:=GR h.rows.ou;rw[b,d] at f;have a:=LP h 12;unfold A0 at a;clear b;go_enter func111,ntmps111;go_wp2_with(go_at_call 103;refine a.mono ?_;rintro j n⟨rfl,c,e,g⟩);go_end0;exact⟨rfl,c,e,g⟩
theorem Ajt(T:m.out.length≠60){a:Int}(K: -2147483648<=a/\a<=2147483647):
 Ah 111 #[Al V,.int .i32 a] w (A0 V Y wc W Q U O waits R w A6 {m with out:=m.out++[a]} Z):=by
 obtain⟨P,E,L,M,N⟩:=info_parts Tryz.infoIntC;have ac:=h.rows.o60;have J:=h.ouAt;obtain⟨g,i,d⟩:=GR h.rows.ou;have af:=Wv K;have t: ∀l,Ay w (w.alloc l):=fun l=>AP;have c:=h.below (t (.cells #[Aa a] 3));have p:=c.rows.ou
 have F: ∀e f,[Value.int .i64 a][e]? =some f->(w.alloc (.cells #[Aa a] 3)).cell? (((Ac w.heap.size 0):Addr).add e)=some f:=by
  intro e f k;cases e with
  |zero=>simp at k;subst k;exact Cl w #[Aa a] 3 0
  |succ e=>simp at k
 have n:Hid (MC V Y wc W Q (w.alloc (.cells #[Aa a] 3)) m U O waits R Z):=c;have ai:=c.frz 10;have A:=c.ouAt;have I:R.ou.ownBlock≠some V:=fun z=>h.rows.xr (.inr (.inr (.inr z)));have ag:V<(w.alloc (.cells #[Aa a] 3)).heap.size:=c.rows.xlt;have ah:=h.rows.xlt;have S:Hid (R.ou=.slice g m.out.length i):=d;rw[d] at J A p
 have v:Hid (∀(X:World)(b:Value),(w.alloc (.cells #[Aa a] 3)).grownBy X (Value.slice g m.out.length i).ownBlock->X.ownsRow 0 3 1 b (m.out.length+1) (m.out.map (.int .i64)++[Aa a])->(b.ownBlock=(Value.slice g m.out.length i).ownBlock\/ ∀s,b.ownBlock=some s->(w.alloc (.cells #[Aa a] 3)).heap.size<=s)->
  X.cell? (Ac V 10)=some (.slice g m.out.length i)/\X.frozen? (Ac V 10)=false/\MC V Y wc W Q (X.setCell (Ac V 10) b) {m with out:=m.out++[a]} U O waits {R with ou:=b} Z/\MM V R {R with ou:=b} (w.alloc (.cells #[Aa a] 3)) (X.setCell (Ac V 10) b)):=by
  intro X b j H o;rw[<-d] at j o;obtain⟨B,C⟩:=n.out.cellsG j I;have u:=n.out.outTo (s':=m.out++[a]) j (by simpa using H) o (by rw[AG];simp;omega);exact⟨(B 10 _ rfl).trans (by rw[d]),C 10,u.1,u.2⟩
 clear c d;have aa:((m.out.length:Int)==60)=false:=by simp;omega
 generalize ae:m.out.length=ol at*;go_enter func111,ntmps111
 go_wp2_with(first
  |(at_builtin;refine Gw rfl _ _ 23 rfl 0 3 P _ 1 8 underlying23 E L M N rfl (by decide) _ _ _ rfl p (Ac w.heap.size 0) 1 1 [Aa a] rfl (by simp) F ?h1 ?h63 ?hby ?hbase ?hh
    case h1=>intro f r;simp at r;subst r;rfl
    case h63=>unfold maxLen;omega
    case hby=>omega
    case hbase=>exact B6 _
    intro b X q D G;obtain⟨aj,ak,rfl⟩:=GR q
    obtain⟨ad,ab,x,y⟩:=v.out X _ D q G))
 go_end0;exact⟨rfl,_,x,(MM.of_below (t _)).trans y⟩
theorem Agh(d:m.input=[]):
 Ah 112 #[Al V] w (A0 V Y wc W Q U O waits R w A6 (m.end_ 11) Z):=by
 have f:=h.inAt;obtain⟨j,k,b,_⟩:=h.rows.inp;rw[b,d] at f;have a:=LP h 11;unfold A0 at a;clear b;go_enter func112,ntmps112;go_wp2_with(go_at_call 103;refine a.mono ?_;rintro i l⟨rfl,c,e,g⟩);go_end0;exact⟨rfl,c,e,g⟩
theorem MC.setInput{v':Value}{xs:List Int}(d:KL Q w v' xs)(f:Ga xs):
 MC V Y wc W Q (w.setCell (Ac V 6) v') {m with input:=xs} U O waits R v'/\MM V R R w (w.setCell (Ac V 6) v'):=by
 have e: ∀b,Q b->(w.setCell (Ac V 6) v').heap[b]? =w.heap[b]? :=fun b c=>Below.heap_setCell _ _ _ _ (h.rows.far b c).2.1;have a:=h.rows.setX 6 v';refine⟨⟨h.cel.set (o:=6) (by simp[IJ]) v',fun g=>by rw[Cu];exact h.frz g,?_⟩,MM.setX _ _ _ _ _⟩;exact⟨a.pl,a.st,a.ca,a.ou,d.same e,a.wds,a.s1,a.s2,a.s3,a.s4,a.s5,a.s6,a.qw,a.far,a.xr,a.xlt,a.rp,a.rs,f,a.c30,a.o60⟩
theorem Agi{f:Int}{c:List Int}(r:m.input=f::c)(H:m.stack.length<=1000000):
 Ah 112 #[Al V] w fun j I=>j=.returned A6/\ ∃D X,MC V Y wc W Q I {m with stack:=m.stack++[f],input:=c} U O waits D X/\MM V R D w I:=by
 have s:=h.inAt;have n:=h.rows.ri;rw[r] at n;have S:=n f (by simp);obtain⟨ac,q,e,z,K,i⟩:=h.rows.inp;rw[r] at e z i;rcases i with i|⟨d,o,rfl,E,i⟩
 ·cases i
 have ad:w.cell? (Ac d o)=some (.int .i32 f):=i 0 f rfl;have v:=FS h S H;unfold A0 at v;have N:((f::c).length:Nat)=c.length+1:=rfl;rw[N] at e z;have ah:((c.length+1:Nat):Int)=(c.length:Int)+1:=by omega
 by_cases J:q=1
 ·have P:c=[]:=Mi (by omega);subst P J;rw[e] at s;have l: ∀b a,MC V Y wc W Q b (m.push f) U O waits a Z->b.cell? (Ac V 6)=some (.slice (some (Ac d o)) 1 1)/\b.frozen? (Ac V 6)=false/\MC V Y wc W Q (b.setCell (Ac V 6) (.slice (some (Ac d o)) 0 0)) {m with stack:=m.stack++[f],input:=[]} U O waits a (.slice (some (Ac d o)) 0 0)/\MM V a a b (b.setCell (Ac V 6) (.slice (some (Ac d o)) 0 0)):=fun b a k=>by have p:=k.setInput (v':=.slice (some (Ac d o)) 0 0) (xs:=[]) ⟨_,_,rfl,B6 _,B6 _,.inl rfl⟩ (fun F e=>by cases e);exact⟨k.inAt.trans (by rw[e];rfl),k.frz 6,p.1,p.2⟩
  have u:Hid _:=l;have ag:w.cell? (Ac V 6)=some (.slice (some (Ac d o)) 1 1):=s;clear l e s i r n;go_enter func112,ntmps112;go_wp2_with(go_at_call 105;refine v.mono ?_;rintro j aa⟨rfl,a,x,t⟩;obtain⟨q1,T,B,C⟩:=u.out _ _ x);go_end0;exact⟨rfl,a,_,B,t.trans C⟩
 ·have ae:2<=q:=by omega
  rw[e] at s;obtain⟨g,rfl⟩: ∃g,q=g+2:=⟨q -2,by omega⟩
  have l: ∀b a,MC V Y wc W Q b (m.push f) U O waits a Z->MM V R a w b->b.cell? (Ac V 6)=some (.slice (some (Ac d o)) (c.length+1) (g+2))/\b.frozen? (Ac V 6)=false/\MC V Y wc W Q (b.setCell (Ac V 6) (.slice (some (Ac d (o+1))) c.length (g+1))) {m with stack:=m.stack++[f],input:=c} U O waits a (.slice (some (Ac d (o+1))) c.length (g+1))/\MM V a a b (b.setCell (Ac V 6) (.slice (some (Ac d (o+1))) c.length (g+1))):=fun b a k M=>by
   have p:=k.setInput (v':=.slice (some (Ac d (o+1))) c.length (g+1)) (xs:=c) ⟨_,_,rfl,by omega,by omega,.inr ⟨d,o+1,rfl,E,fun A ab L=>by
    have G:=i (A+1) ab (by simpa using L);have y:=h.rows.far d E;rw[M.1.cell y.1 (by rintro(j|j);exact y.2.1 j;exact y.2.2 j)];rw[show o+1+A=o+(A+1) by omega]
    exact G⟩⟩ (fun F e=>n F (by simp[e]))
   exact⟨k.inAt.trans (by rw[e]),k.frz 6,p.1,p.2⟩
  have u:Hid _:=l;have ai:c.length+1<=g+2:=z;have af:g+2<=maxLen:=K;clear l e i r n;go_enter func112,ntmps112;go_wp2_with(go_at_call 105;refine v.mono ?_;rintro j aa⟨rfl,a,x,t⟩;obtain⟨q1,T,B,C⟩:=u.out _ _ x t);go_end0;exact⟨rfl,a,_,B,t.trans C⟩
theorem MC.stackCut'{b:Nat}(n:b<=m.stack.length): ∃c a,R.st=.slice c m.stack.length a/\m.stack.length<=a/\a<=maxLen/\(c=none->m.stack.length=0/\a=0)/\(∀d,c=some d->d=(Ac d.block 0))/\
 MC V Y wc W Q (w.setCell (Ac V 3) (.slice c b a)) {m with stack:=m.stack.take b} U O waits {R with st:=.slice c b a} Z/\MM V R {R with st:=.slice c b a} w (w.setCell (Ac V 3) (.slice c b a)):=by
 rcases h.rows.st.2 with⟨f,g⟩|⟨k,cap,Ad,i,_,_,p,l,_⟩
 ·have o:b=0:=by omega
  subst o;refine⟨none,0,by rw[f,g],by omega,B6 _,fun _=>⟨g,rfl⟩,(fun d e=>by cases e),?_⟩;refine h.stackTo (w1:=w) ⟨rfl,rfl,rfl,AA _,fun _ _ _=>rfl⟩ ?_ (.inl (by rw[f])) (Y8 h.rows.rs 0);exact World.ownsRow_nil _ _ _ _
 ·exact⟨some (Ac k 0),cap,i,p,l,fun j=>(by cases j),(fun d e=>by cases e;rfl),h.stackCut i n⟩
end
theorem V4: ∀(b:List (Nat×Nat))(a:Nat)(c:Nat×Nat),b[a]? =some c->(Fy b)[a*2]? =some (Aa (c.1:Nat))/\(Fy b)[a*2+1]? =some (Aa (c.2:Nat))
 |[],a,c,h=>by simp at h
 |d::b,0,c,h=>by simp at h;subst h;exact⟨rfl,rfl⟩
 |d::b,a+1,c,h=>by have:=V4 b a c (by simpa using h);have e:Fy (d::b)=Aa (d.1:Nat)::Aa (d.2:Nat)::Fy b:=rfl;rw[e,show(a+1)*2=a*2+1+1 by omega,J4,J4,J4,J4];exact this
theorem Xg(h:MC V Y wc W Q w m U O waits R Z){c:Nat×Nat}(i:m.calls.getLast?=some c)(P:m.base<=m.stack.length)(aj:m.stack.length<=1000000):
 Ah 110 #[Al V] w (A0 V Y wc W Q U O waits R w A6 {m with pc:=c.1,base:=c.2,calls:=m.calls.dropLast,stack:=m.stack.take m.base} Z):=by
 have H:m.calls≠[]:=fun d=>by rw[d] at i;cases i
 have I:0<m.calls.length:=Mk.2 H;have ak:=h.rows.c30;obtain⟨g,cap,e,_,an⟩:=h.rows.ca.form I;obtain⟨b,p⟩: ∃b,m.calls.length=b+1:=⟨m.calls.length -1,by omega⟩;have F:m.calls[b]? =some c:=by rw[UB] at i;rw[<-i];congr 1;omega
 obtain⟨A,B⟩:=V4 _ _ _ F
 have am:b+1<=cap:=by
  rcases h.rows.ca.2 with⟨d,z⟩|⟨ah,ad,Ad,d,_,_,aq,_⟩
  ·omega
  ·rw[e] at d;injection d with N z ag;omega
 have ao:g≠V:=fun d=>h.rows.xr (.inr (.inr (.inl (by rw[e,d];rfl))));have T:=h.caAt;have S:=h.stAt;have al:=h.baAt;have ax:=h.frz 3;rw[e,p] at T;obtain⟨l,n,K,ar,aw,ab,J,C,G⟩:=h.stackCut' P;have a:=C.below (Below.refl _ _).drew;have q:=G.trans (MM.of_below (xb:=V) (Below.refl _ _).drew);rw[K] at S;generalize L:(w.setCell (Ac V 3) (.slice l m.base n)).drew=X at a q;have y:=a.caAt;have ae:=a.pcAt;have af:=a.baAt;have a0:=a.frz 1;have a1:=a.frz 4;have a2:=a.frz 5;simp only at y;rw[e,p] at y;have o: ∀j,j<(b+1)*2->X.cell? (Ac g j)=(Fy m.calls)[j]? :=fun j aa=>by have r:=a.rows.ca;simp only at r;rw[e,p] at r;exact r.cellAt j aa
 have N:X.cell? (Ac g (b*2))=some (Aa (c.1:Nat)):=(o _ (by omega)).trans A;have z:X.cell? (Ac g (b*2+1))=some (Aa (c.2:Nat)):=(o _ (by omega)).trans B;have s:=(a.below (Below.refl _ X).drew).setPc c.1;have t:=s.1.setBase c.2;have k:=t.1.callsCut (g:=g) (cap:=cap) (k:=b) (by simp only;rw[e]) (by simp only;omega);have E:m.calls.take b=m.calls.dropLast:=by rw[Uu];congr 1;omega
 simp only at k;rw[E] at k;have v:Hid _:=k;have x:Hid (MM V R _ w _):=q.trans ((MM.of_below (Below.refl _ X).drew).trans (s.2.trans (t.2.trans k.2)));have ap:b<=30:=by omega
 have u:Hid ((w.setCell (Ac V 3) (.slice l m.base n)).drew=X):=L;have ai:m.base<=1000000:=by omega
 have au:m.base<=n:=by omega
 have av:(m.base:Int)<=(n:Int):=by omega
 have M:Hid (∀f,l=some f->f=(Ac f.block 0)):=J;clear s t k E a q C G o K e i H I F A B L h ab J;generalize m.base=ay at*;generalize m.stack.length=az at*;cases l with
 |none=>
  go_enter func110,ntmps110;go_wp2;go_region;all_goals rw[u.out]
  all_goals go_wp2
  all_goals go_region
  all_goals go_wp2
  all_goals go_end0
  all_goals exact⟨rfl,_,v.out.1,x.out⟩
 |some f=>
  have D:=M.out f rfl;generalize f.block=ac at D;subst D;go_enter func110,ntmps110;go_wp2;go_region;all_goals rw[u.out]
  all_goals go_wp2
  all_goals go_region
  all_goals go_wp2
  all_goals go_end0
  all_goals exact⟨rfl,_,v.out.1,x.out⟩
end
