/- The machine: a place gets a value. The machine: the value of -/
import Derived.Test.YtklobognaldjpaaGreatCMs1
import Derived.Lib.AppendZerosOnto
set_option maxRecDepth 1000000
set_option maxHeartbeats 2000000
namespace Go.Proofs.YtklobognaldjpaaGreat
open Go.Proofs.Tryz
open Go.RowKit
section
variable{V Y wc U O:Nat}{W:List Nat}{Q:AW}{w Z K:World}{m:MS}{waits:Bool}{R:MR}{X:Value}
section
variable(h:MC V Y wc W Q w m U O waits R X)(I:W.length<=1000000)(J:m.stack.length<=1000000)
include h I J
theorem Aie(r:W[m.pc]? =some 4){b:Nat}{f:Int}(q:W[m.pc+1]? =some b)(l:m.stack.getLast?=some f)(k:b<m.places.length):
 Ah 73 #[Al V] w (DV V Y wc W Q U O waits R w {m with pc:=m.pc+2,stack:=m.stack.dropLast,places:=m.places.set b f}):=by
 have s:=L8 h.rows.rs l;obtain⟨e,cap,i,_⟩:=h.plCell (Bb k);have u:=CN h r I;have v:=fun a(c:MC V Y wc W Q a {m with pc:=m.pc+1} U O waits R X)=>CN (c.below (Below.refl _ _).drew) q I;have y: ∀a,MC V Y wc W Q a {m with pc:=m.pc+1+1} U O waits R X->Ah 106 #[Al V] a fun g Z=>g=.returned (.int .i32 f)/\ ∃d,d.pl=R.pl/\MC V Y wc W Q Z {m with pc:=m.pc+2,stack:=m.stack.dropLast} U O waits d X/\MM V R d a Z:=fun a c=>Qx c l J;have z: ∀a,MC V Y wc W Q a {m with pc:=m.pc+1} U O waits R X->a.cell? (Ac V 2)=some (Ar e m.places.length cap):=fun a c=>c.plAt.trans (by rw[i]);have A: ∀a,MC V Y wc W Q a {m with pc:=m.pc+1+1} U O waits R X->a.cell? (Ac V 2)=some (Ar e m.places.length cap):=fun a c=>c.plAt.trans (by rw[i])
 have B: ∀a d,d.pl=R.pl->MC V Y wc W Q a {m with pc:=m.pc+2,stack:=m.stack.dropLast} U O waits d X->a.cell? (Ac V 2)=some (Ar e m.places.length cap)/\a.cell? (Ac e b)=some (.int .i32 m.places[b])/\a.frozen? (Ac e b)=false/\MC V Y wc W Q (a.setCell (Ac e b) (.int .i32 f)) {m with pc:=m.pc+2,stack:=m.stack.dropLast,places:=m.places.set b f} U O waits d X/\MM V d d a (a.setCell (Ac e b) (.int .i32 f)):=fun a d E c=>by
  have j:d.pl=Ar e m.places.length cap:=by rw[E,i]
  have t:=c.placeTo j b s;exact⟨c.plAt.trans (by rw[j]),(c.plVal (Bb k) j).1,(c.plVal (Bb k) j).2,t.1,t.2⟩
 have S:(b:Int)<(m.places.length:Int):=by omega
 clear i l q r s;generalize m.places[b]=ab at*;generalize M:({m with pc:=m.pc+2,stack:=m.stack.dropLast,places:=m.places.set b f}:MS)=aa at*;generalize L:({m with pc:=m.pc+2,stack:=m.stack.dropLast}:MS)=T at*;clear M L;generalize m.places.length=ah at*;go_enter func73,ntmps73;go_wp2_with(go_at_call 102;refine u.mono ?_;rintro g K⟨rfl,n,F⟩;have ac:=z _ n;have x:=v _ n);go_region_with (first|(go_at_call 102;refine x.mono ?_;rintro g ai⟨rfl,o,G⟩;have ad:=A _ o)|(go_at_call 106;refine(y _ o).mono ?_;rintro g aj⟨rfl,C,p,D,H⟩;obtain⟨ae,af,ag,N,P⟩:=B _ _ p D;clear p))
 all_goals go_wp2
 all_goals go_end0
 all_goals exact⟨rfl,C,X,N,F.trans ((MM.of_below (Below.refl _ _).drew).trans (G.trans (H.trans P)))⟩
theorem Ah2(p:W[m.pc]? =some 5){c:Nat}{f:Int}(o:W[m.pc+1]? =some c)(e:m.stack[m.base+c]? =some f):
 Ah 73 #[Al V] w (DV V Y wc W Q U O waits R w (({m with pc:=m.pc+2}:MS).push f)):=by
 have D:m.base+c<m.stack.length:=(BH.1 e).1;have q:=h.rows.rs f (Ct e);obtain⟨g,cap,d,_,_⟩:=h.rows.st.form (by omega);have r:=CN h p I;have s:=fun a(b:MC V Y wc W Q a {m with pc:=m.pc+1} U O waits R X)=>CN (b.below (Below.refl _ _).drew) o I;have j:=fun a(b:MC V Y wc W Q a {m with pc:=m.pc+1+1} U O waits R X)=>FS b q J;have u: ∀a,MC V Y wc W Q a {m with pc:=m.pc+1} U O waits R X->a.cell? (Ac V 3)=some (Ar g m.stack.length cap)/\a.cell? (Ac V 4)=some (Aa (m.base:Nat)):=fun a b=>⟨b.stAt.trans (by rw[d]),b.baAt⟩;have v: ∀a,MC V Y wc W Q a {m with pc:=m.pc+1+1} U O waits R X->a.cell? (Ac V 3)=some (Ar g m.stack.length cap)/\a.cell? (Ac V 4)=some (Aa (m.base:Nat))/\a.cell? (Ac g (m.base+c))=some (.int .i32 f):=fun a b=>⟨b.stAt.trans (by rw[d]),b.baAt,(b.stVal e d).1⟩;unfold A0 at j;have E:(m.base:Int)+(c:Int)<(m.stack.length:Int):=by omega
 clear d e o p q;generalize m.base=i at*;generalize m.stack.length=C at*;have G:IntKind.i64.wrap ((i:Int)+(c:Int))=((i+c:Nat):Int):=by rw[IntKind.wrap_i64];omega
 have F:((i+c:Nat):Int)<(C:Int):=by omega
 go_enter func73,ntmps73;go_wp2_with(go_at_call 102;refine r.mono ?_;rintro k K⟨rfl,l,z⟩;obtain⟨H,q1⟩:=u _ l;have t:=s _ l);go_region_with (first|(go_at_call 102;refine t.mono ?_;rintro k P⟨rfl,n,A⟩;obtain⟨L,N,M⟩:=v _ n)|(go_at_call 105;refine(j _ n).mono ?_;rintro k S⟨rfl,x,y,B⟩))
 all_goals go_wp2
 all_goals go_end0
 all_goals exact⟨rfl,x,X,y,z.trans ((MM.of_below (Below.refl _ _).drew).trans (A.trans B))⟩
theorem Aih(q:W[m.pc]? =some 6){b:Nat}{g:Int}(p:W[m.pc+1]? =some b)(j:m.stack.getLast?=some g)(E:m.base+b<m.stack.dropLast.length):
 Ah 73 #[Al V] w (DV V Y wc W Q U O waits R w {m with pc:=m.pc+2,stack:=m.stack.dropLast.set (m.base+b) g}):=by
 have r:=L8 h.rows.rs j;have ab:m.stack.dropLast.length<=1000000:=by rw[Ib];omega
 have u:=CN h q I;have l: ∀a,MC V Y wc W Q a {m with pc:=m.pc+1} U O waits R X->Ah 106 #[Al V] a (A0 V Y wc W Q U O waits R a (.int .i32 g) {m with pc:=m.pc+1,stack:=m.stack.dropLast} X):=fun a e=>JT e j J;have v: ∀a c,MC V Y wc W Q a {m with pc:=m.pc+1,stack:=m.stack.dropLast} U O waits c X->Ah 102 #[Al V] a.drew fun i Z=>i=.returned (Aa (b:Nat))/\MC V Y wc W Q Z {m with pc:=m.pc+2,stack:=m.stack.dropLast} U O waits c X/\MM V c c a.drew Z:=fun a c e=>CN (e.below (Below.refl _ _).drew) p I;have z: ∀a c,MC V Y wc W Q a {m with pc:=m.pc+1,stack:=m.stack.dropLast} U O waits c X-> ∃d cap,c.st=Ar d m.stack.dropLast.length cap/\a.cell? (Ac V 3)=some (Ar d m.stack.dropLast.length cap)/\a.cell? (Ac V 4)=some (Aa (m.base:Nat)):=fun a c e=>by obtain⟨d,cap,f,_,_⟩:=e.rows.st.form (by simp only;omega);exact⟨d,cap,f,e.stAt.trans (by rw[f]),e.baAt⟩
 have n: ∀a c d cap,c.st=Ar d m.stack.dropLast.length cap->MC V Y wc W Q a {m with pc:=m.pc+2,stack:=m.stack.dropLast} U O waits c X->a.cell? (Ac V 3)=some (Ar d m.stack.dropLast.length cap)/\a.cell? (Ac V 4)=some (Aa (m.base:Nat))/\a.cell? (Ac d (m.base+b))=some (.int .i32 m.stack.dropLast[m.base+b])/\a.frozen? (Ac d (m.base+b))=false/\MC V Y wc W Q (a.setCell (Ac d (m.base+b)) (.int .i32 g)) {m with pc:=m.pc+2,stack:=m.stack.dropLast.set (m.base+b) g} U O waits c X/\MM V c c a (a.setCell (Ac d (m.base+b)) (.int .i32 g)):=fun a c d cap f e=>by have t:=e.slotTo f (m.base+b) r;have s:=e.stVal (Bb E) f;exact⟨e.stAt.trans (by rw[f]),e.baAt,s.1,s.2,t.1,t.2⟩
 unfold A0 at l;have aa:(m.base:Int)+(b:Int)<(m.stack.dropLast.length:Int):=by omega
 have A:Hid _:=n;clear j p q r n;generalize m.stack.dropLast[m.base+b]=ah at*;generalize N:({m with pc:=m.pc+2,stack:=m.stack.dropLast.set (m.base+b) g}:MS)=ag at*;generalize M:({m with pc:=m.pc+2,stack:=m.stack.dropLast}:MS)=af at*;generalize L:({m with pc:=m.pc+1,stack:=m.stack.dropLast}:MS)=ae at*;clear N M L;generalize m.base=k at*;generalize m.stack.dropLast.length=T at*;have ad:IntKind.i64.wrap ((k:Int)+(b:Int))=((k+b:Nat):Int):=by rw[IntKind.wrap_i64];omega
 have ac:((k+b:Nat):Int)<(T:Int):=by omega
 go_enter func73,ntmps73;go_wp2_with(first|(go_at_call 102;refine u.mono ?_;rintro i K⟨rfl,C,F⟩)|(go_at_call 106;refine(l _ C).mono ?_;rintro i an⟨rfl,B,o,G⟩;obtain⟨d,cap,f,ai,q1⟩:=z _ _ o;have y:Hid _:=f;clear f;have x:=v _ _ o));go_region_with (go_at_call 102;refine x.mono ?_;rintro i ao⟨rfl,D,H⟩;obtain⟨aj,am,ak,al,P,S⟩:=A.out _ _ _ _ y.out D)
 all_goals go_wp2
 all_goals go_end0
 all_goals exact⟨rfl,B,X,P,F.trans (G.trans ((MM.of_below (Below.refl _ _).drew).trans (H.trans S)))⟩
theorem Ah1(r:W[m.pc]? =some 8){e:Nat}{d:Int}(t:m.stack.getLast?=some (e:Int))(i:m.places[e]? =some d):
 Ah 73 #[Al V] w (DV V Y wc W Q U O waits R w {m with pc:=m.pc+1,stack:=m.stack.dropLast++[d]}):=by
 obtain⟨k,cap,g,M⟩:=h.plCell i;have s:=h.rows.rp d (Ct i);have F:m.stack.dropLast.length<=1000000:=by rw[Ib];omega
 have u:=CN h r I;have v: ∀a,MC V Y wc W Q a {m with pc:=m.pc+1} U O waits R X->Ah 106 #[Al V] a.drew fun f Z=>f=.returned (.int .i32 (e:Nat))/\ ∃j,j.pl=R.pl/\MC V Y wc W Q Z {m with pc:=m.pc+1,stack:=m.stack.dropLast} U O waits j X/\MM V R j a.drew Z:=fun a b=>Qx (b.below (Below.refl _ _).drew) t J;have l: ∀a c,MC V Y wc W Q a {m with pc:=m.pc+1,stack:=m.stack.dropLast} U O waits c X->Ah 105 #[Al V,.int .i32 d] a (A0 V Y wc W Q U O waits c a A6 {m with pc:=m.pc+1,stack:=m.stack.dropLast++[d]} X):=fun a c b=>FS b s F;have y: ∀a,MC V Y wc W Q a {m with pc:=m.pc+1} U O waits R X->a.cell? (Ac V 2)=some (Ar k m.places.length cap):=fun a b=>b.plAt.trans (by rw[g]);have z: ∀a c,c.pl=R.pl->MC V Y wc W Q a {m with pc:=m.pc+1,stack:=m.stack.dropLast} U O waits c X->a.cell? (Ac V 2)=some (Ar k m.places.length cap)/\a.cell? (Ac k e)=some (.int .i32 d):=fun a c p b=>⟨b.plAt.trans (by rw[p,g]),(b.plVal i (by rw[p,g])).1⟩;unfold A0 at l;have N:(e:Int)<(m.places.length:Int):=by omega
 clear g i t r s;generalize H:({m with pc:=m.pc+1,stack:=m.stack.dropLast++[d]}:MS)=S at*;generalize G:({m with pc:=m.pc+1,stack:=m.stack.dropLast}:MS)=P at*;clear H G;generalize m.places.length=ac at*;go_enter func73,ntmps73;go_wp2_with(go_at_call 102;refine u.mono ?_;rintro f K⟨rfl,n,C⟩;have T:=y _ n;have x:=v _ n);go_region_with (first|(go_at_call 106;refine x.mono ?_;rintro f ad⟨rfl,L,q,o,D⟩;obtain⟨aa,ab⟩:=z _ _ q o;clear q)|(go_at_call 105;refine(l _ _ o).mono ?_;rintro f ae⟨rfl,A,B,E⟩))
 all_goals go_wp2
 all_goals go_end0
 all_goals exact⟨rfl,A,X,B,C.trans ((MM.of_below (Below.refl _ _).drew).trans (D.trans E))⟩
theorem Aig(t:W[m.pc]? =some 9){c:Nat}{g:Int}(p:m.stack.getLast?=some g)(v:m.stack.dropLast.getLast?=some (c:Int))(n:c<m.places.length):
 Ah 73 #[Al V] w (DV V Y wc W Q U O waits R w {m with pc:=m.pc+1,stack:=m.stack.dropLast.dropLast,places:=m.places.set c g}):=by
 have u:=L8 h.rows.rs p;obtain⟨f,cap,o,_⟩:=h.plCell (Bb n);have S:m.stack.dropLast.length<=1000000:=by rw[Ib];omega
 have y:=CN h t I;have z: ∀a,MC V Y wc W Q a {m with pc:=m.pc+1} U O waits R X->Ah 106 #[Al V] a fun i Z=>i=.returned (.int .i32 g)/\ ∃b,b.pl=R.pl/\MC V Y wc W Q Z {m with pc:=m.pc+1,stack:=m.stack.dropLast} U O waits b X/\MM V R b a Z:=fun a e=>Qx e p J;have A: ∀a d,MC V Y wc W Q a {m with pc:=m.pc+1,stack:=m.stack.dropLast} U O waits d X->Ah 106 #[Al V] a.drew fun i Z=>i=.returned (.int .i32 (c:Nat))/\ ∃b,b.pl=d.pl/\MC V Y wc W Q Z {m with pc:=m.pc+1,stack:=m.stack.dropLast.dropLast} U O waits b X/\MM V d b a.drew Z:=fun a d e=>Qx (e.below (Below.refl _ _).drew) v S;have C: ∀(a:World)(d:MR),d.pl=R.pl->MC V Y wc W Q a {m with pc:=m.pc+1,stack:=m.stack.dropLast} U O waits d X->a.cell? (Ac V 2)=some (Ar f m.places.length cap):=fun a d k e=>e.plAt.trans (by rw[k,o])
 have q: ∀(a:World)(d b:MR),d.pl=R.pl->b.pl=d.pl->MC V Y wc W Q a {m with pc:=m.pc+1,stack:=m.stack.dropLast.dropLast} U O waits b X->a.cell? (Ac V 2)=some (Ar f m.places.length cap)/\a.cell? (Ac f c)=some (.int .i32 m.places[c])/\a.frozen? (Ac f c)=false/\MC V Y wc W Q (a.setCell (Ac f c) (.int .i32 g)) {m with pc:=m.pc+1,stack:=m.stack.dropLast.dropLast,places:=m.places.set c g} U O waits b X/\MM V b b a (a.setCell (Ac f c) (.int .i32 g)):=fun a d b L k e=>by
  have j:b.pl=Ar f m.places.length cap:=by rw[k,L,o]
  have x:=e.placeTo j c u;exact⟨e.plAt.trans (by rw[j]),(e.plVal (Bb n) j).1,(e.plVal (Bb n) j).2,x.1,x.2⟩
 have af:(c:Int)<(m.places.length:Int):=by omega
 have D:Hid _:=q;clear o p v t u q;generalize m.places[c]=aj at*;generalize ab:({m with pc:=m.pc+1,stack:=m.stack.dropLast.dropLast,places:=m.places.set c g}:MS)=ai at*;generalize aa:({m with pc:=m.pc+1,stack:=m.stack.dropLast.dropLast}:MS)=ah at*;generalize T:({m with pc:=m.pc+1,stack:=m.stack.dropLast}:MS)=ag at*;clear ab aa T;generalize m.places.length=ao at*;go_enter func73,ntmps73;go_wp2_with(first|(go_at_call 102;refine y.mono ?_;rintro i K⟨rfl,G,M⟩)|(go_at_call 106;refine(z _ G).mono ?_;rintro i ap⟨rfl,ae,l,r,N⟩;have E:Hid _:=l;have ak:=C _ _ l r;clear l;have B:=A _ _ r));go_region_with (go_at_call 106;refine B.mono ?_;rintro i aq⟨rfl,F,s,H,P⟩;obtain⟨al,am,an,ac,ad⟩:=D.out _ _ _ E.out s H;clear s)
 all_goals go_wp2
 all_goals go_end0
 all_goals exact⟨rfl,F,X,ac,M.trans (N.trans ((MM.of_below (Below.refl _ _).drew).trans (P.trans ad)))⟩
theorem Ah6(t:W[m.pc]? =some 27){d:Nat}{e:Int}(r:W[m.pc+1]? =some d)(g:m.stack[m.base+d]? =some e){b:Nat×Nat}(s:m.calls.getLast?=some b):
 Ah 73 #[Al V] w (DV V Y wc W Q U O waits R w {m with pc:=b.1,base:=b.2,calls:=m.calls.dropLast,stack:=m.stack.take m.base++[e]}):=by
 have T:m.base+d<m.stack.length:=(BH.1 g).1;have u:=h.rows.rs e (Ct g);obtain⟨k,cap,f,_,_⟩:=h.rows.st.form (by omega);have L:(m.stack.take m.base).length<=1000000:=by rw[It];omega
 have v:=CN h t I;have x:=fun a(c:MC V Y wc W Q a {m with pc:=m.pc+1} U O waits R X)=>CN (c.below (Below.refl _ _).drew) r I;have n: ∀a,MC V Y wc W Q a {m with pc:=m.pc+1+1} U O waits R X->Ah 110 #[Al V] a (A0 V Y wc W Q U O waits R a A6 {m with pc:=b.1,base:=b.2,calls:=m.calls.dropLast,stack:=m.stack.take m.base} X):=fun a c=>Xg c s (by simp only;omega) J;have o: ∀a i,MC V Y wc W Q a {m with pc:=b.1,base:=b.2,calls:=m.calls.dropLast,stack:=m.stack.take m.base} U O waits i X->Ah 105 #[Al V,.int .i32 e] a (A0 V Y wc W Q U O waits i a A6 {m with pc:=b.1,base:=b.2,calls:=m.calls.dropLast,stack:=m.stack.take m.base++[e]} X):=fun a i c=>FS c u L;have z: ∀a,MC V Y wc W Q a {m with pc:=m.pc+1} U O waits R X->a.cell? (Ac V 3)=some (Ar k m.stack.length cap)/\a.cell? (Ac V 4)=some (Aa (m.base:Nat)):=fun a c=>⟨c.stAt.trans (by rw[f]),c.baAt⟩;have A: ∀a,MC V Y wc W Q a {m with pc:=m.pc+1+1} U O waits R X->a.cell? (Ac V 3)=some (Ar k m.stack.length cap)/\a.cell? (Ac V 4)=some (Aa (m.base:Nat))/\a.cell? (Ac k (m.base+d))=some (.int .i32 e):=fun a c=>⟨c.stAt.trans (by rw[f]),c.baAt,(c.stVal g f).1⟩;unfold A0 at n o;have Z:(m.base:Int)+(d:Int)<(m.stack.length:Int):=by omega
 clear f g r t u s;generalize N:({m with pc:=b.1,base:=b.2,calls:=m.calls.dropLast,stack:=m.stack.take m.base++[e]}:MS)=ad at*;generalize M:({m with pc:=b.1,base:=b.2,calls:=m.calls.dropLast,stack:=m.stack.take m.base}:MS)=ac at*;clear N M;generalize m.base=l at*;generalize m.stack.length=P at*;have ab:IntKind.i64.wrap ((l:Int)+(d:Int))=((l+d:Nat):Int):=by rw[IntKind.wrap_i64];omega
 have aa:((l+d:Nat):Int)<(P:Int):=by omega
 go_enter func73,ntmps73;go_wp2_with(go_at_call 102;refine v.mono ?_;rintro j K⟨rfl,p,E⟩;obtain⟨ae,q1⟩:=z _ p;have y:=x _ p);go_region_with (go_at_call 102;refine y.mono ?_;rintro j ai⟨rfl,q,F⟩;obtain⟨af,ah,ag⟩:=A _ q)
 all_goals go_wp2_with(first|(go_at_call 110;refine(n _ q).mono ?_;rintro j aj⟨rfl,S,C,G⟩)|(go_at_call 105;refine(o _ _ C).mono ?_;rintro j ak⟨rfl,B,D,H⟩))
 all_goals go_end0
 all_goals exact⟨rfl,B,X,D,E.trans ((MM.of_below (Below.refl _ _).drew).trans (F.trans (G.trans H)))⟩
end
end
theorem Un(b:Value)(a:Nat):Builtin.zeroCells #[b] a=(List.replicate a b).toArray:=by
 apply Array.ext
 ·simp[Builtin.zeroCells]
 ·intro e c d;simp[Builtin.zeroCells,Nat.mod_one]
theorem Ahj{P:Program}(w:World)(u v E c:TypeId)(h:TypeInfo)(d:Value)(D C:IntKind)(bytes:Nat)(m:P.underlying u=some (.slice c))(n:P.underlying v=some (.int C))(k:P.info? c=some h)(B:h.zero=some d)
 (O:h.size=1)(q:h.bytes=bytes)(T:d.cells= #[d])(ad:d.oneCell'=true)(p:Value)(b:Nat)(f:List Value)(g:w.ownsRow 0 c 1 p b f)(a:Nat)(I:b+a<=maxLen)(K:(b+a)*bytes<=140737488355328):
 ∃G Z,(Builtin.append_ #[u,v] E #[p,.int D a]).run P w=.ok G Z/\Z.ownsRow 0 c 1 G (b+a) (f++List.replicate a d)/\w.grownBy Z p.ownBlock/\JA w p G:=by
 have af:b+a<=9223372036854775807:=by simp only[maxLen] at I;omega
 have R:IntKind.i64.wrap (a:Int)=a:=by rw[IntKind.wrap_i64];omega
 have X: ¬((a:Int)<0):=by omega
 have ae:a*bytes<=140737488355328:=AT (UL _ (by omega)) K;have V: ¬(281474976710656<(a:Int)*(h.bytes:Int)):=by rw[<-Int.natCast_mul,q];omega
 have t:(f++List.replicate a d).length=(b+a)*1:=by rw[AG,g.1,Ml];omega
 have H: ∀(i:Nat),∀(row:Option Nat),
  (w.drew.alloc (.cells (f.toArray++Builtin.zeroCells d.cells a++Builtin.zeroCells d.cells (grownCap w (b+a) i c -(b+a))) c)).ownsRow 0 c 1
   (Ar w.heap.size (b+a) (grownCap w (b+a) i c)) (b+a) (f++List.replicate a d)/\
  w.grownBy (w.drew.alloc (.cells (f.toArray++Builtin.zeroCells d.cells a++Builtin.zeroCells d.cells (grownCap w (b+a) i c -(b+a))) c)) row:=by
  intro i row;have W:=grownCap_ge w (b+a) i c;have r:grownCap w (b+a) i c<=maxLen:=grownCap_le_maxLen w (b+a) i c I;rw[T,Un,Un];refine⟨⟨t,.inr ⟨w.heap.size,_,_,rfl,B6 _,heap_alloc_new w.drew _,W,r,?_,?_⟩⟩,⟨rfl,rfl,rfl,by simp,fun _ s _=>heap_alloc_old w.drew _ s⟩⟩
  ·have:=g.1;simp only[Array.size_append,UE,Ml];omega
  ·simp only[Array.toList_append];rw[<-t];exact UG
 by_cases s:a=0
 ·subst s;have S:IntKind.i64.wrap 0=0:=R;refine⟨p,w,?_,by simpa using g,⟨rfl,rfl,rfl,AA _,fun _ _ _=>rfl⟩,.inl rfl⟩;rcases g.2 with⟨rfl,rfl⟩|⟨e,cap,Ad,rfl,J,y,M,r,L,A⟩
  ·simp[Builtin.append_,OM m,OM n,sizeOf,typeInfo,k,asInt,asIntOf,S]
  ·simp[Builtin.append_,OM m,OM n,sizeOf,typeInfo,k,asInt,asIntOf,S,M,storeCells]
 ·rcases g.2 with⟨rfl,rfl⟩|⟨e,cap,Ad,rfl,J,y,M,r,L,A⟩
  ·have ac:f=[]:=Mi (by simpa using g.1);subst ac;have z:=Lib.run_append_nil_zeros (P:=P) w u v E c h d D C m n k B a (by omega) (by omega) (by omega) (by rw[q];omega);have j:=H 0 (Value.ownBlock Aw);simp only[NU,Hl,Array.empty_append] at j⊢;refine⟨_,_,z,j.1,j.2,.inr fun o l=> ?_⟩;have:w.heap.size=o:=by simpa[Value.ownBlock] using l
   omega
  ·by_cases N:b+a<=cap
   ·rw[Mr] at A;have x:b+(List.replicate a d).length<=Ad.size:=by rw[Ml,L];omega
    have Q:=run_storeCells_at P e b c (List.replicate a d) 0 Ad w y (by simpa using x) (fun F ab=>by rw[Rl ab];exact ad);simp only[Mq] at Q;refine⟨Ar e (b+a) cap,w.setRow e (Ad.toList.take b++List.replicate a d++Ad.toList.drop (b+(List.replicate a d).length)).toArray,?_,⟨t,.inr ⟨e,cap,_,rfl,J,setRow_heap w e Ad (Ad.toList.take b++List.replicate a d++Ad.toList.drop (b+(List.replicate a d).length)).toArray c _ y,N,r,?_,?_⟩⟩,⟨rfl,rfl,rfl,by simp,fun o _ l=>setRow_other w e o _ (fun c=>l (by simp[Value.ownBlock,c]))⟩,.inl rfl⟩
    ·simp[Builtin.append_,OM m,OM n,sizeOf,typeInfo,zeroValue,k,B,asInt,asIntOf,R,X,V,N,Addr.add_lit,O,T,Un,s];rw[Q];simp
    ·simp only[UE,AG,It,Hj,Array.length_toList];omega
    ·rw[A,<-t];exact UG
   ·have aa: ∀U F,f[U]? =some F->w.drew.cell? (((Ac e 0):Addr).add U)=some F:=g.cells (g:=e) rfl;have Y:=run_firstCells_some (P:=P) w.drew h.size b (Ac e 0) b cap f (by rw[O];exact g.1) aa;have x:=growslice_fits (old:=cap) (need:=b+a) (bytes:=bytes) (by omega) K;have z:=Lib.run_append_grow_zeros (P:=P) w u v E c h d D C m n k B (some (Ac e 0)) b cap f Y a (by omega) (by omega) (by omega) (by omega) (by rw[q];omega) (by rw[q];exact x);have j:=H cap (Value.ownBlock (Ar e b cap));refine⟨_,_,z,j.1,j.2,.inr fun o l=> ?_⟩;have:w.heap.size=o:=by simpa[Value.ownBlock] using l
    omega
theorem AhT{j:Program}{k:Array Oper}{o:Oper}{a:Act}{w:World}{i:Act->World->Prop}{Q:Exit->Act->World->Prop}{l:Prop}(m:o.guard=none)(s g:Operand)(b c:TypeId)
 (n:o.op=.call {callee:=.builtin .append,args:= #[s,g],argTypes:= #[b,c]})(e f:Value)(q:a.eval s=e)(t:a.eval g=f)
 (d:Value)(Z:World)(p: ∀u,(Builtin.append_ #[b,c] u #[e,f]).run j w=.ok d Z)(h:i (a.put o.dst d) Z):
 if Region.wanted o (yielded k a.tmps)=true then Oper.wp j o a w i Q else l:=by
 have r:Region.wanted o (yielded k a.tmps)=true:=by simp[Region.wanted,m]
 rw[Ag r];exact Lib.wp_append_run w s g b c n e f q t d Z (p _) h
theorem AgT{b:List Int}(h:Ga b)(d:Nat):Ga (b++List.replicate d 0):=by
 intro e c;rcases BD.1 c with a|a
 ·exact h e a
 ·rw[Rl a];omega
section
variable{V Y wc U O:Nat}{W:List Nat}{Q:AW}{w Z K:World}{m:MS}{waits:Bool}{R:MR}{X:Value}
section
variable(h:MC V Y wc W Q w m U O waits R X)
include h
theorem MC.more0(a:Nat)(J:m.stack.length+a<=1000000){g:Option Addr}{i:Nat}(f:R.st=.slice g m.stack.length i):
 ∃b c d,(∀y,(Builtin.append_ #[129,3] y #[.slice g m.stack.length i,Aa (a:Nat)]).run prog w=.ok (.slice b (m.stack.length+a) c) d)/\d.cell? (Ac V 3)=some (.slice g m.stack.length i)/\d.frozen? (Ac V 3)=false/\
  MC V Y wc W Q (d.setCell (Ac V 3) (.slice b (m.stack.length+a) c)) {m with stack:=m.stack++List.replicate a 0} U O waits {R with st:=.slice b (m.stack.length+a) c} X/\MM V R {R with st:=.slice b (m.stack.length+a) c} w (d.setCell (Ac V 3) (.slice b (m.stack.length+a) c)):=by
 obtain⟨x,r,t,u,v⟩:=info_parts Tryz.infoI32;have l:=h.rows.st;rw[f] at l;obtain⟨z,d,s,k,e,j⟩:=Ahj (P:=prog) w 129 3 0 21 x (.int .i32 0) .i64 .i64 4 underlying129 underlying3 r t u v rfl rfl _ _ _ l a (by unfold maxLen;omega) (by omega);obtain⟨b,c,rfl⟩:=GR k;rw[<-f] at e j;obtain⟨p,q⟩:=h.cellsG e (fun o=>h.rows.xr (.inr (.inl o)));have n:=h.stackTo (s':=m.stack++List.replicate a 0) e (by simpa using k) j (AgT h.rows.rs a);exact⟨b,c,d,fun _=>s,(p 3 _ rfl).trans (by rw[f]),q 3,n.1,n.2⟩
theorem AhX(I:W.length<=1000000)(q:W[m.pc]? =some 25){b:Nat}(p:W[m.pc+1]? =some b)(J:m.stack.length+b<=1000000):
 Ah 73 #[Al V] w (DV V Y wc W Q U O waits R w {m with pc:=m.pc+2,stack:=m.stack++List.replicate b 0}):=by
 obtain⟨j,k,i⟩:=GR h.rows.st;have r:=CN h q I;have s:=fun a(d:MC V Y wc W Q a {m with pc:=m.pc+1} U O waits R X)=>CN (d.below (Below.refl _ _).drew) p I;have v: ∀a,MC V Y wc W Q a {m with pc:=m.pc+1} U O waits R X->a.cell? (Ac V 3)=some (.slice j m.stack.length k):=fun a d=>d.stAt.trans (by rw[i]);have x: ∀a,MC V Y wc W Q a {m with pc:=m.pc+1+1} U O waits R X->a.cell? (Ac V 3)=some (.slice j m.stack.length k):=fun a d=>d.stAt.trans (by rw[i])
 have l: ∀a,MC V Y wc W Q a {m with pc:=m.pc+1+1} U O waits R X-> ∃e f c,(∀P,(Builtin.append_ #[129,3] P #[.slice j m.stack.length k,Aa (b:Nat)]).run prog a=.ok (.slice e (m.stack.length+b) f) c)/\c.cell? (Ac V 3)=some (.slice j m.stack.length k)/\c.frozen? (Ac V 3)=false/\
  Hid (∃g,MC V Y wc W Q (c.setCell (Ac V 3) (.slice e (m.stack.length+b) f)) {m with pc:=m.pc+2,stack:=m.stack++List.replicate b 0} U O waits g X/\MM V R g a (c.setCell (Ac V 3) (.slice e (m.stack.length+b) f))):=fun a d=>by
  obtain⟨e,f,c,A,B,C,D,E⟩:=d.more0 b J (by simp only;rw[i]);exact⟨e,f,c,A,B,C,_,D,E⟩
 have z:Hid _:=l;clear i p q l;generalize N:({m with pc:=m.pc+2,stack:=m.stack++List.replicate b 0}:MS)=S at*;clear N;generalize m.stack.length=ac at*;go_enter func73,ntmps73;go_wp2_with(go_at_call 102;refine r.mono ?_;rintro F K⟨rfl,n,L⟩;have T:=v _ n;have t:=s _ n);go_region_law (first|(refine AhT rfl _ _ _ _ (by rfl) _ _ (by rfl) (by rfl) _ _ y ?_)|(go_simp;go_wp2_with(go_at_call 102;refine t.mono ?_;rintro F ad⟨rfl,o,M⟩;have Z:=x _ o;obtain⟨e,f,c,y,aa,ab,u⟩:=z.out _ o)))
 all_goals go_wp2
 all_goals go_end0
 all_goals(obtain⟨g,G,H⟩:=u.out;exact⟨rfl,g,X,G,L.trans ((MM.of_below (Below.refl _ _).drew).trans (M.trans H))⟩)
end
end
