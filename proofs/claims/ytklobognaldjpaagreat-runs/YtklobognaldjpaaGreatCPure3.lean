/- The reader: faults, what must stand there, names and numbers -/
import Derived.Test.YtklobognaldjpaaGreatCParse1
import Derived.Deep.RegionWith
import Derived.Lib.SlicesS
set_option maxRecDepth 100000
set_option maxHeartbeats 1000000
namespace Go.Proofs.YtklobognaldjpaaGreat
open Go.Proofs.Tryz
open Go.RowKit
section
variable{O X cap:Nat}{T:List Az}{w:World}{s:PS}
theorem MI(h:PW O X cap T w s)(f:An T s)(b:Nat):
 Ah 146 #[Al O,Aa b] w fun e g=>e=.returned A6/\PW O X cap T g (AI T b s)/\As O w g:=by
 have hF:=AiQ;have m:=h.size;have k:s.next<T.length:=f;go_enter func146,ntmps146;go_wp2;go_region_with (first|(go_at_call 145;refine(Hz (h.below (Below.refl _ _).drew) f).mono ?_;rintro e o⟨rfl,d⟩)|(go_at_call 148;refine(AiH ((h.below (Below.refl _ _).drew).below d) b _).mono ?_;rintro e p⟨rfl,a,j⟩))
 have n:=a.toks;have l:=a.next;have hf:=a.frz 3;go_wp2;go_end0;have c:=a.setNext (T.length -1);have i:(((T.length -1:Nat)):Int)=(T.length:Int) -1:=by omega
 rw[i] at c;exact⟨rfl,c,(((As.of_below (Below.refl _ _).drew).trans (As.of_below d)).trans j).setCell _ _⟩
theorem F4(h:PW O X cap T w s)(d:An T s)(f:Af):
 Ah 144 #[Al O,.string f] w fun e i=>e=.returned A6/\PW O X cap T i (Am T f s)/\As O w i:=by
 cases a:Aj T f s with
 |true=>
  have b:=EM h d f a;have e:Am T f s=Ab s:=by simp[Am,a]
  rw[e];clear e a;go_enter func144,ntmps144;go_wp2_with(go_at_call 165;refine b.mono ?_;rintro e l⟨rfl,c,g⟩);go_end0;exact⟨rfl,c,g⟩
 |false=>
  have b:=D2 h d f a;have e:Am T f s=AI T 4 s:=by simp[Am,a]
  rw[e];clear e a;go_enter func144,ntmps144;go_wp2_with(first|(go_at_call 165;refine b.mono ?_;rintro e l⟨rfl,c,g⟩)|(go_at_call 146;refine(MI c d 4).mono ?_;rintro e m⟨rfl,j,k⟩));go_end0;exact⟨rfl,j,g.trans k⟩
theorem AfQ(a:TK):(a.p==1)=decide (a=.name):=by cases a<;>rfl
theorem AfR(a:TK):(a.p==2)=decide (a=.number):=by cases a<;>rfl
theorem MW(s:PS):((Ad T s).kind.p==1)=AN T .name s:=AfQ _
theorem P4(s:PS):((Ad T s).kind.p==2)=AN T .number s:=AfR _
section
variable(h:PW O X cap T w s)
include h
theorem PW.setOther(a:Addr)(v:Value)(b:a.block≠O)(c:a.block≠X):PW O X cap T (w.setCell a v) s:=by
 have e: ∀o,(w.setCell a v).cell? (Ac O o)=w.cell? (Ac O o):=fun o=>Bh _ _ _ _ (fun e=>b (by rw[e]))
 exact⟨by rw[e];exact h.code,by rw[e];exact h.at_,by rw[e];exact h.toks,by rw[e];exact h.next,
  fun o=>by rw[Cu];exact h.frz o,
  fun f g d=>by rw[Bh _ _ _ _ (fun e=>c (by rw[e]))];exact h.tok f g d,h.ne,by simp[World.setCell];exact h.tlt,h.size⟩
theorem PW.alloc(o:Obj):PW O X cap T (w.alloc o) s:=h.below AP
theorem Ui(f:An T s)(c:Int)(g:(Ad T s).kind.p=c):
 Ah 203 #[Al O,Aa c] w fun e i=>e=.returned (.agg #[Aa c,.string (Ad T s).text,Aa (Ad T s).val,Aa (Ad T s).pos])/\PW O X cap T i (Ab s)/\As O w i:=by
 have d:=fun o=>Hz (h.alloc o) f;rw[g] at d;have x:=h.size;have r:s.next<T.length:=f;have t:=h.lt;have y:=h.tlt;generalize(Ad T s).text=m at*;generalize(Ad T s).val=n at*;generalize(Ad T s).pos=l at*;clear g;go_enter func203,ntmps203;go_wp2_with(go_at_call 145;refine(d _).mono ?_;rintro e p⟨rfl,b⟩;have a:=(h.alloc _).below b;have v:=a.next;have hf:=a.frz 3;have u:=a.lt;obtain⟨j,q⟩:=N3 b;have k:w.heap.size<p.heap.size:=by(have:=b.size;simp at this;omega));refine bodyPost_ret (v:=.agg #[Aa c,.string m,Aa n,Aa l]) (by simp[results,results203,go_sem,j,k]) rfl ⟨rfl,?_⟩;go_light;refine⟨((((((a.setNext (s.next+1)).setOther _ _ ?_ ?_).setOther _ _ ?_ ?_).setOther _ _ ?_ ?_).setOther _ _ ?_ ?_).alloc _),((((((((As.refl _ _).alloc _).trans (As.of_below b)).setCell _ _).setNew ?_ _).setNew ?_ _).setNew ?_ _).setNew ?_ _).alloc _⟩;all_goals(simp;try omega)
end
end
theorem As.new{O:Nat}{w c:World}{a:Array Value}{b:TypeId}(f:O<w.heap.size)(d:As O (w.alloc (.cells a b)) c):
 (∀o,c.cell? (Ac w.heap.size o)=a[o]?)/\(∀o,c.frozen? (Ac w.heap.size o)=false)/\w.heap.size<c.heap.size:=by
 have e:=d.size;rw[show(w.alloc (.cells a b)).heap.size=w.heap.size+1 from by simp] at e;refine⟨fun o=> ?_,fun o=> ?_,by omega⟩
 ·rw[d.cell (p:=Ac w.heap.size o) (by simp) (by show w.heap.size≠O;omega)];exact Cl w a b o
 ·rw[d.frozen (p:=Ac w.heap.size o) (by simp) (by show w.heap.size≠O;omega)];exact Gc w a b o
section
variable{O X cap:Nat}{T:List Az}{w:World}{s:PS}
theorem Aah(h:PW O X cap T w s)(b:An T s)(d:Int)(n:((Ad T s).kind.p !=d)=true):
 Ah 203 #[Al O,Aa d] w fun e f=>e=.returned (.agg #[Aa 0,.string ⟨#[]⟩,Aa 0,Aa 0])/\PW O X cap T f (AI T 4 s)/\As O w f:=by
 have g:=fun o=>Hz (h.alloc o) b;have l:=h.lt;have q:=h.tlt;generalize(Ad T s).kind.p=r at*;generalize(Ad T s).text=u at*;generalize(Ad T s).val=v at*;generalize(Ad T s).pos=t at*;go_enter func203,ntmps203
 go_wp2_with(first
  |(go_at_call 145;refine(g _).mono ?_;rintro e x⟨rfl,a⟩;have i:=(h.alloc _).below a)
  |(go_at_call 146;refine(MI (i.alloc _) b 4).mono ?_;rintro e y⟨rfl,j,k⟩
    have c:=((As.of_below (pb:=O) a).alloc _).trans k
    obtain⟨m,q1,p⟩:=c.new l))
 refine bodyPost_ret (v:=.agg #[Aa 0,.string ⟨#[]⟩,Aa 0,Aa 0]) (by simp[results,results203,go_sem,m]) rfl ⟨rfl,?_⟩;go_light;refine⟨(((j.setOther _ _ ?_ ?_).setOther _ _ ?_ ?_).setOther _ _ ?_ ?_).setOther _ _ ?_ ?_,((((((As.refl _ _).alloc _).trans c).setNew ?_ _).setNew ?_ _).setNew ?_ _).setNew ?_ _⟩;all_goals(simp;try omega)
theorem LV(h:PW O X cap T w s)(j:An T s):
 Ah 189 #[Al O] w fun e l=>e=.returned (.agg #[.string (Ap T s).1.1,Aa (Ap T s).1.2])/\PW O X cap T l (Ap T s).2/\As O w l:=by
 have k:=h.lt;have n:=h.tlt;cases a:AN T .name s with
 |true=>
  have e:Ap T s=(((Ad T s).text,(Ad T s).pos),Ab s):=by simp[Ap,a]
  rw[e];have b:(Ad T s).kind.p=1:=by have:=MW (T:=T) s;rw[a] at this;simpa using this
  have f:=fun o=>Ui (h.alloc o) j 1 b;clear e a b;go_enter func189,ntmps189;go_wp2_with(go_at_call 203;refine(f _).mono ?_;rintro e m⟨rfl,d,c⟩;obtain⟨i,q1,g⟩:=c.new k);refine bodyPost_ret (v:=.agg #[.string (Ad T s).text,Aa (Ad T s).pos]) (by simp[results,results189,go_sem,i,g]) rfl ⟨rfl,?_⟩;go_light;refine⟨((d.setOther _ _ ?_ ?_).setOther _ _ ?_ ?_).alloc _,((((As.refl _ _).alloc _).trans c).setNew ?_ _).setNew ?_ _|>.alloc _⟩;all_goals(simp;try omega)
 |false=>
  have e:Ap T s=((⟨#[]⟩,0),AI T 4 s):=by simp[Ap,a]
  rw[e];have b:((Ad T s).kind.p !=1)=true:=by have:=MW (T:=T) s;rw[a] at this;simp at this;simpa using this
  have f:=fun o=>Aah (h.alloc o) j 1 b;clear e a b;go_enter func189,ntmps189;go_wp2_with(go_at_call 203;refine(f _).mono ?_;rintro e m⟨rfl,d,c⟩;obtain⟨i,q1,g⟩:=c.new k);refine bodyPost_ret (v:=.agg #[.string ⟨#[]⟩,Aa 0]) (by simp[results,results189,go_sem,i,g]) rfl ⟨rfl,?_⟩;go_light;refine⟨((d.setOther _ _ ?_ ?_).setOther _ _ ?_ ?_).alloc _,((((As.refl _ _).alloc _).trans c).setNew ?_ _).setNew ?_ _|>.alloc _⟩;all_goals(simp;try omega)
theorem O7(a:Int)(c:a<=14)(w:World)(O:Nat):
 Ah 204 #[Al O,Aa a] w fun e b=>e=.returned (.bool false)/\b=w:=by
 go_enter func204,ntmps204;go_wp2;go_ret;exact⟨rfl,rfl⟩
theorem Aaa(h:PW O X cap T w s)(d:An T s)(a:Int)(g:14<a):
 Ah 204 #[Al O,Aa a] w fun e b=>e=.returned (.bool true)/\PW O X cap T b (AI T 5 s)/\As O w b:=by
 have i: ¬a<=14:=by omega
 go_enter func204,ntmps204;go_wp2_with(go_at_call 146;refine(MI h d 5).mono ?_;rintro e j⟨rfl,c,f⟩);go_ret;exact⟨rfl,c,f⟩
end
def FU(w:World)(b:Nat)(c:List Af):Prop:= ∀a f,c[a]? =some f->w.cell? (Ac b a)=some (.string f)
theorem FU.par{w e:World}{a O:Nat}{b:List Af}(h:FU w a b)(i:As O w e)(j:a≠O):FU e a b:=fun d f g=>by have c:=h d f g;rw[i.cell (p:=Ac a d) (De c) j];exact c
def Adb(a:List Af)(b:Af):Int:=Lib.idxOfS a b
theorem AhA(i q:Nat)(a:List Af)(d:Af)(w:World)(s:a.length<=600)(n:FU w i a):
 Ah 226 #[Ar i a.length q,.string d] w fun e r=>e=.returned (Aa (Adb a d))/\r=w:=by
 go_enter func226,ntmps226;go_wp2;go_loop [5,8] (fun _ k=> ∃b:Nat,b<=a.length/\k=Aa b/\ ∀c,c<b->a.getD c ByteArray.empty≠d) (fun _ k=>a.length -(intOf k).toNat)
 case atStart=>exact⟨0,B6 _,rfl,fun c o=>absurd o (Nat.not_lt_zero _)⟩
 case round=>
  obtain⟨b,u,rfl,p⟩:=hrel;have g:Hid (∀c,c<b->a.getD c ByteArray.empty≠d):=p;clear p;by_cases j:b<a.length
  ·have t:w.cell? (Ac i b)=some (.string a[b]):=n b a[b] (Bb j);have f:a.getD b ByteArray.empty=a[b]:=by rw[Dg,Bb j];rfl
   have l:Hid (a.getD b ByteArray.empty=a[b]):=f;clear f n;generalize a[b]=m at*;go_wp2
   ·have heq:(d.toList==m.toList)=true:=by assumption
    go_ret;refine⟨L7 ?_,rfl⟩;have e:=(Lib.bytes_beq_iff _ _).1 heq;have:=Lib.idxOfS_hit a a.length b d j (AA _) (by rw[l.out];exact e.symm) g.out;rw[E7] at this;exact this.symm
   ·have heq:(d.toList==m.toList)=false:=by assumption
    go_round
    case rel=>exact⟨b+1,by omega,by go_num,fun c o=>by
     by_cases e:c=b
     ·subst e;rw[l.out];exact fun h=>(Lib.bytes_beq_false_iff _ _).1 heq h.symm
     ·exact g.out c (by omega)⟩
    case measure=>simp[intOf];omega
  ·have f:b=a.length:=by omega
   go_wp2;go_ret;refine⟨L7 ?_,rfl⟩;have:=Lib.idxOfS_miss a b d g.out;rw[f,E7] at this;exact this.symm
theorem AbD(T:List Az)(a:List Af)(s:PS):Lib.containsS a (Ad T s).text=CL T a s:=by
 rw[Uq,Lib.containsS_iff];unfold CL Aj;rw[IX];constructor
 ·intro h;exact⟨_,h,(Lib.bytes_beq_iff _ _).2 rfl⟩
 ·rintro⟨f,hf,h⟩;rw[(Lib.bytes_beq_iff _ _).1 h];exact hf
theorem AbE(b d:Nat)(a:List Af)(c:Af)(w:World)(g:a.length<=600)(h:FU w b a):
 Ah 223 #[Ar b a.length d,.string c] w fun e f=>e=.returned (.bool (Lib.containsS a c))/\f=w:=by
 unfold Lib.containsS;go_enter func223,ntmps223;go_wp2_with(go_at_call 226;refine(AhA b d a c _ g h).mono ?_;rintro e f⟨rfl,rfl⟩);go_ret;exact⟨rfl,rfl⟩
section
variable{O X cap:Nat}{T:List Az}{w:World}{s:PS}
theorem QK(h:PW O X cap T w s)(j:An T s)(b d:Nat)(a:List Af)(g:a.length<=600)(i:FU w b a)(k:b≠O):
 Ah 218 #[Al O,Ar b a.length d] w fun e f=>e=.returned (.bool (CL T a s))/\PW O X cap T f s/\As O w f:=by
 rw[<-AbD];have hF:=Ud;go_enter func218,ntmps218;go_wp2_with(first|(go_at_call 145;refine(Hz h j).mono ?_;rintro e l⟨rfl,c⟩)|(go_at_call 223;refine Aq (AbE b d a _ _ g (i.par (As.of_below c) k)) ?_));go_ret;exact⟨rfl,h.below c,As.of_below c⟩
end
def AY(b:Nat):Nat->Prop:=fun a=>b<=a
abbrev AW:=Nat->Prop
def B8(Q:AW)(w:World)(v:Value)(b:List Value):Prop:=
 (v=Aw/\b=[])\/ ∃a cap,v=Ar a b.length cap/\Q a/\a<w.heap.size/\ ∀c d,b[c]? =some d->w.cell? (Ac a c)=some d
def BR(Q:AW)(w b:World):Prop:=w.heap.size<=b.heap.size/\ ∀a,Q a->a<w.heap.size->b.heap[a]? =w.heap[a]?
theorem As.keepQ{O b:Nat}{w c:World}(a:As O w c)(h:O<b):BR (AY b) w c:=
 ⟨a.size,fun d e f=>a.block d f (by unfold AY at e;omega)⟩
theorem BR.weak{Q Q':AW}{w b:World}(h:BR Q w b)(e: ∀a,Q' a->Q a):BR Q' w b:=⟨h.1,fun a c d=>h.2 a (e a c) d⟩
theorem B8.keep{Q:AW}{w f:World}{v:Value}{e:List Value}(h:B8 Q w v e)(b:BR Q w f):B8 Q f v e:=by
 rcases h with h|⟨a,cap,j,d,c,g⟩
 ·exact .inl h
 ·refine .inr ⟨a,cap,j,d,CF c b.1,fun k l i=> ?_⟩;rw[World.cell?_of_block (w:=w) (b.2 a d c)];exact g k l i
theorem B8.weak{Q Q':AW}{w:World}{v:Value}{c:List Value}(h:B8 Q w v c)(f: ∀a,Q a->a<w.heap.size->Q' a):B8 Q' w v c:=by
 rcases h with h|⟨a,cap,g,e,b,d⟩
 ·exact .inl h
 ·exact .inr ⟨a,cap,g,f a e b,b,d⟩
inductive Ca(Q:AW)(w:World):Value->Ex->Prop
 |nil:Ca Q w .nilIface .nil
 |num (v:Nat):Ca Q w (.iface 283 (.agg #[Aa v])) (.num v)
 |var (n:Af) (p:Nat):Ca Q w (.iface 284 (.agg #[.string n,Aa p])) (.var n p)
 |elem (n:Af) (p:Nat) {vi:Value} {i:Ex}:Ca Q w vi i->Ca Q w (.iface 286 (.agg #[.string n,Aa p,vi])) (.elem n p i)
 |call (n:Af) (p:Nat) {va:Value} {vs:List Value} {args:List Ex}:B8 Q w va vs->vs.length=args.length->(∀(j:Nat) v e,vs[j]? =some v->args[j]? =some e->Ca Q w v e)->
   Ca Q w (.iface 287 (.agg #[.string n,Aa p,va])) (.call n p args)
 |bin (op:Af) {vl vr:Value} {l r:Ex}:Ca Q w vl l->Ca Q w vr r->Ca Q w (.iface 289 (.agg #[.string op,vl,vr])) (.bin op l r)
 |un (op:Af) {ve:Value} {e:Ex}:Ca Q w ve e->Ca Q w (.iface 292 (.agg #[.string op,ve])) (.un op e)
theorem Ca.keep{Q:AW}{w c:World}{v:Value}{e:Ex}(h:Ca Q w v e)(d:BR Q w c):Ca Q c v e:=by
 induction h with
 |nil=>exact .nil
 |num v=>exact .num v
 |var b p=>exact .var b p
 |elem b p _ a=>exact .elem b p a
 |call b p g f _ a=>exact .call b p (g.keep d) f a
 |bin op _ _ i j=>exact .bin op i j
 |un op _ a=>exact .un op a
theorem Ca.weak{Q Q':AW}{w:World}{v:Value}{e:Ex}(h:Ca Q w v e)(f: ∀c,Q c->c<w.heap.size->Q' c):Ca Q' w v e:=by
 induction h with
 |nil=>exact .nil
 |num v=>exact .num v
 |var b p=>exact .var b p
 |elem b p _ a=>exact .elem b p a
 |call b p g d _ a=>exact .call b p (g.weak f) d a
 |bin op _ _ i j=>exact .bin op i j
 |un op _ a=>exact .un op a
theorem Ca.up{a b:Nat}{w:World}{v:Value}{e:Ex}(h:Ca (AY b) w v e)(f:a<=b):Ca (AY a) w v e:=h.weak fun c d _=>by unfold AY at*;omega
section
variable{Q:AW}{w:World}{v:Value}{e:Ex}(h:Ca Q w v e)
include h
theorem Ca.cells: ∀a,v=.agg a->False:=by cases h<;>(intro a b;cases b)
theorem Ca.one:v.oneCell'=true:=by cases h<;>rfl
end
def KJ(a:Nat):Prop:= ∀(args:Array Value)(w:World),(callFunc a args).run prog w=.ok (.enter a args) w
def Fk(O X cap:Nat)(T:List Az)(b:Nat)(c:Int)(U:AU):Prop:=
 ∀w s,PW O X cap T w s->An T s->Ah b #[Al O,Aa c] w fun e a=> ∃v,e=.returned v/\Ca (AY w.heap.size) a v (U s).1/\PW O X cap T a (U s).2/\As O w a
theorem Of{a:Nat}{fn:Func}(hf:prog.funcs[a]? =some fn)(e:(fn.name== "runtime.NumGoroutine")=false)(d:fn.body.isSome=true):KJ a:=by
 intro args w;have b:fn.name≠ "runtime.NumGoroutine" :=by simpa using e
 obtain⟨f,c⟩:=KN.1 d;simp[callFunc,hf,b,c]
theorem Ab5:KJ 229:=Of func229 (by kernel_rfl) (by kernel_rfl)
section
variable{O X cap:Nat}{T:List Az}{w:World}{s:PS}
theorem WJ(h:PW O X cap T w s)(j:An T s)(r:An T (Ab s)){a:Nat}{g:Int}{U:AU}(o:KJ a)(hF:Fk O X cap T a g U){n:Value}{m:Ex}{b:Nat}(l:Ca (AY b) w n m)(u:O<b)(C:b<=w.heap.size):
 Ah 219 #[Al O,n,.func (.func a) #[Al O] #[],Aa g] w fun e f=>
  ∃v,e=.returned v/\Ca (AY b) f v (.bin (Ad T s).text m (U (Ab s)).1)/\PW O X cap T f (U (Ab s)).2/\As O w f:=by
 have y:=Ud;have E:=h.size;have B:s.next<T.length:=j;have A:=l.cells;have x: ∀(args:Array Value)(w:World),(callFunc a args).run prog w=.ok (.enter a args) w:=o;go_enter func219,ntmps219;go_wp2_with(first|(go_at_call 145;refine(Hz h j).mono ?_;rintro e G⟨rfl,d⟩;have c:=h.below d;have D:=c.next;have hf:=c.frz 3;have p:=c.setNext (s.next+1))|(refine(hF _ _ p r).mono ?_;rintro e H⟨F,rfl,i,q,t⟩;have z:=i.cells));go_ret;have k:=((As.of_below (pb:=O) d).setCell 3 (Aa ((s.next+1:Nat):Int))).trans t;exact⟨_,rfl,.bin _ (l.keep (k.keepQ u)) (i.up (by have:=d.size;simp[World.setCell];omega)),q,k⟩
end
def Kp(O:Nat)(w:World):Nat:=(intOf ((w.cell? (Ac O 3)).getD undef)).toNat
section
variable{O X cap:Nat}{T:List Az}{w:World}{s:PS}
theorem Gq(h:PW O X cap T w s):Kp O w=s.next:=by unfold Kp;rw[h.next];simp[intOf]
theorem Le(V:AR T)(c:An T s){a:List Af}(b: ∀f∈a,f.toList≠[])(h:CL T a s=true):An T (Ab s):=by unfold CL at h;rw[IX] at h;obtain⟨f,hf,h⟩:=h;exact AD V c h (b f hf)
theorem Kb{U:AU}{b:List Af}{a:Nat}{c:Ex}(h:CL T b s=false):Bi T U b a c s=(c,s):=by
 cases a with
 |zero=>rfl
 |succ a=>rw[Bi,h];rfl
theorem Ka{U:AU}{a:List Af}{c:Nat}{b:Ex}(h:CL T a s=true):Bi T U a (c+1) b s=Bi T U a c (.bin (Ad T s).text b (U (Ab s)).1) (U (Ab s)).2:=by rw[Bi,h];rfl
theorem FU.below{w e:World}{a:Nat}{b:List Af}(h:FU w a b)(g:Ay w e):FU e a b:=fun d f i=>by have c:=h d f i;rw[g.cell (p:=Ac a d) (De c)];exact c
theorem PB(V:AR T)(h:PW O X cap T w s)(G:An T s){i:Nat}{A:Int}{U:AU}(B:KJ i)(hF:Fk O X cap T i A U)(Y:AM T U)
 (j r:Nat)(b:List Af)(E:b.length<=600)(L:FU w j b)(y:j≠O)(M: ∀f∈b,f.toList≠[]):
 Ah 214 #[Al O,.func (.func i) #[Al O] #[],Aa A,Ar j b.length r] w fun e z=>
  ∃v,e=.returned v/\Ca (AY w.heap.size) z v (BU T U b s).1/\PW O X cap T z (BU T U b s).2/\As O w z:=by
 have W: ∀(args:Array Value)(w:World),(callFunc i args).run prog w=.ok (.enter i args) w:=B;go_enter func214,ntmps214;go_wp2_with(refine(hF _ _ h G).mono ?_;rintro e ab⟨v1,rfl,J,I,N⟩);have Q:=Y s G;go_loopw [9] (fun v wr=> ∃(a:PS)(l:Ex)(m:Nat),Ca (AY w.heap.size) wr v l/\PW O X cap T wr a/\As O w wr/\An T a/\T.length<=a.next+m/\Hid (Bi T U b m l a=BU T U b s)) (fun _ wr=>T.length -Kp O wr)
 case atStart=>exact⟨(U s).2,(U s).1,T.length,J,I,N,Q.1,by omega,rfl⟩
 case round=>
  obtain⟨a,l,m,D,t,o,d,Z,n⟩:=hrel;have F:=L.par o y;have R:=Gq t;cases c:CL T b a with
  |true=>
   have H:=Le V d M c;have x:=Y (Ab a) H;have k:=QK t d j r b E F y;rw[c] at k;obtain⟨p,rfl⟩: ∃p,m=p+1:=⟨m -1,by unfold An at d;omega⟩;have q:Hid (Bi T U b p (.bin (Ad T a).text l (U (Ab a)).1) (U (Ab a)).2=BU T U b s):=by show _=_;rw[<-n.out,Ka c]
   clear n c;go_wp2_with(first|(go_at_call 218;refine k.mono ?_;rintro e S⟨rfl,u,g⟩)|(go_at_call 219;refine(WJ u d H B hF (D.keep (g.keepQ h.lt)) h.lt (AT o.size g.size)).mono ?_;rintro e ac⟨aa,rfl,K,C,P⟩))
   go_roundw
   case rel=>exact⟨(U (Ab a)).2,_,p,K,C,(o.trans g).trans P,x.1,by have:=x.2;have e:(Ab a).next=a.next+1:=rfl;omega,q⟩
   case measure=>
    rw[Gq C,R];have:=x.2;have e:(Ab a).next=a.next+1:=rfl
    unfold An at d;omega
  |false=>
   have k:=QK t d j r b E F y;rw[c] at k;have q:Hid (BU T U b s=(l,a)):=by show _=_;rw[<-n.out,Kb c]
   clear n c;go_wp2_with(go_at_call 218;refine k.mono ?_;rintro e S⟨rfl,u,g⟩);go_ret;refine⟨_,rfl,?_⟩;rw[q.out];exact⟨D.keep (g.keepQ h.lt),u,o.trans g⟩
end
theorem I6(a:List UInt8)(h:a≠[]):(bs a).toList≠[]:=by rw[EU];exact h
theorem Ai{a:UInt8}{b:List UInt8}:(bs (a::b)).toList≠[]:=I6 _ (by simp)
section
variable{T:List Az}(V:AR T)
include V
theorem XU{U:AU}(Y:AM T U){d:List Af}(g: ∀f∈d,f.toList≠[]): ∀(c:Nat)(a:Ex)(s:PS),An T s->An T (Bi T U d c a s).2/\s.next<=(Bi T U d c a s).2.next
 |0,a,s,b=>⟨b,AA _⟩
 |c+1,a,s,b=>by
  rw[Bi];split
  ·rename_i h;unfold CL at h;rw[IX] at h;obtain⟨f,hf,h⟩:=h;have k:=AD V b h (g f hf);have i:=Y (Ab s) k;have j:=XU Y g c (.bin (Ad T s).text a (U (Ab s)).1) (U (Ab s)).2 i.1;have e:(Ab s).next=s.next+1:=rfl
   exact⟨j.1,by omega⟩
  ·exact⟨b,AA _⟩
theorem Qk{U:AU}(Y:AM T U){a:List Af}(d: ∀f∈a,f.toList≠[]):AM T (BU T U a):=by intro s e;have b:=Y s e;have c:=XU V Y d T.length (U s).1 (U s).2 b.1;exact⟨c.1,AT b.2 c.2⟩
omit V in
theorem BG:(∀f∈Db,f.toList≠[])/\(∀f∈C9,f.toList≠[])/\(∀f∈C5,f.toList≠[])/\(∀f∈MB,f.toList≠[])/\(∀f∈No,f.toList≠[]):=by refine⟨?_,?_,?_,?_,?_⟩<;>intro f hf<;>simp only[Db,C9,C5,MB,No,C0,I0,Jl] at hf<;>rcases hf with rfl|rfl|rfl|rfl<;>exact I6 _ (by simp)
section
variable{U:AU}(Y:AM T U)
include Y
theorem Kl:AM T (Jr T U):=Qk V Y BG.1
theorem Kk:AM T (Fq T U):=Qk V (Kl V Y) BG.2.1
theorem Ae5:AM T (DM T U):=by
 intro s c;have a:=Y s c;unfold DM;split
 ·rename_i h;unfold CL at h;rw[IX] at h;obtain⟨f,hf,h⟩:=h;have d:=AD V a.1 h (BG.2.2.1 f hf);have b:=Y (Ab (U s).2) d;have e:(Ab (U s).2).next=(U s).2.next+1:=rfl
  have g:=a.2;exact⟨b.1,by have:=b.2;show s.next<=(U (Ab (U s).2)).2.next;omega⟩
 ·exact a
theorem Km:AM T (Hi T U):=Ae5 V (Kk V Y)
theorem Ki:AM T (I5 T U):=Qk V (Km V Y) BG.2.2.2.1
theorem IK:AM T (EA T U):=Qk V (Ki V Y) BG.2.2.2.2
end
theorem Qi{U:AU}(Y:AM T U): ∀(c:Nat)(a:List Ex)(s:PS),An T s->An T (Bj T U c a s).2/\s.next<=(Bj T U c a s).2.next
 |0,a,s,b=>⟨b,AA _⟩
 |c+1,a,s,b=>by
  rw[Bj];split
  ·rename_i h;have g:=AD V b h Ai;have d:=Y (Ab s) g;have f:=Qi Y c (a++[(U (Ab s)).1]) (U (Ab s)).2 d.1;have e:(Ab s).next=s.next+1:=rfl
   exact⟨f.1,by omega⟩
  ·exact⟨b,AA _⟩
theorem Qj{U:AU}(Y:AM T U):AM T (Ba T U):=by
 intro s d;unfold Ba;split
 ·rename_i h;exact⟨AD V d h Ai,Ic _⟩
 ·have a:=Y s d;have b:=Qi V Y T.length [(U s).1] (U s).2 a.1;have c:=Ch V (f:=AJ) Ai b.1;exact⟨c.1,AT a.2 (AT b.2 c.2)⟩
theorem Kj{U:AU}(Y:AM T U):AM T (Cg T U):=by intro s c;have a:=Y s c;have b:=Ch V (f:=Cn) Ai a.1;exact⟨b.1,AT a.2 b.2⟩
theorem Ew{g:Type}{f:PS->g×PS}(Y:AM T f){a:Af}(d:a.toList≠[]){s:PS}(c:An T s)(h:Aj T a s=true):An T (f (Ab s)).2/\s.next<=(f (Ab s)).2.next:=by
 have b:=Y (Ab s) (AD V c h d);have e:(Ab s).next=s.next+1:=rfl
 exact⟨b.1,by omega⟩
theorem Ae1{U:AU}(Y:AM T U):AM T (FQ T U):=by
 intro s c;have a:=Gn V s c;unfold FQ;split
 ·rename_i h;have b:=Ew V (Qj V Y) Ai a.1 h;exact⟨b.1,AT a.2 b.2⟩
 ·split
  ·rename_i h;have b:=Ew V (Kj V Y) Ai a.1 h;exact⟨b.1,AT a.2 b.2⟩
  ·exact a
theorem Nf: ∀c,AM T (Da T c)
 |0=>fun s a=>⟨Gh V 5 s,FO 5 a⟩
 |c+1=>fun s a=>by
  have b:=Nf c;have f:=IK V b;rw[Da];split
  ·exact OC V s a
  ·split
   ·exact Ae1 V f s a
   ·split
    ·rename_i h;have d:=Ew V f Ai a h;have e:=Ch V (f:=AJ) Ai d.1;exact⟨e.1,AT d.2 e.2⟩
    ·split
     ·rename_i h;exact Ew V b Ai a h
     ·split
      ·rename_i h;exact Ew V b Ai a h
      ·exact⟨Gh V 4 s,FO 4 a⟩
theorem Tv(a:Nat):AM T (EQ T a):=IK V (Nf V a)
end
