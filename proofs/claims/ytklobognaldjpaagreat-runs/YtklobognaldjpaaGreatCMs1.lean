/- The machine: operations. The machine: a step. The machine: s -/
import Derived.Test.YtklobognaldjpaaGreatCMc6
set_option maxRecDepth 1000000
set_option maxHeartbeats 2000000
namespace Go.Proofs.YtklobognaldjpaaGreat
open Go.Proofs.Tryz
open Go.RowKit
section
variable{V X wc U O:Nat}{W:List Nat}{Q:AW}{w I Z:World}{m:MS}{waits:Bool}{R:MR}{Y:Value}
theorem AiO(b:Int){a:Int}(c:a≠0)(f: -2147483648<=a/\a<=2147483647): -2147483648<=b.tmod a/\b.tmod a<=2147483647:=by have d:(b.tmod a).natAbs=b.natAbs%a.natAbs:=Int.natAbs_tmod b a;have e:b.natAbs%a.natAbs<a.natAbs:=Nat.mod_lt _ (by omega);omega
theorem Ajr{a:Int}(h: -2147483648<=a/\a<=2147483647):BW a=a:=by unfold BW Int.bmod;simp only;split<;>omega
def Dx(m:MS)(op:Nat)(b c:Int):MS:=match K0 op b c with
 |some a=>m.push a
 |none=>m.end_ 10
section
variable(h:MC V X wc W Q w m U O waits R Y)
include h
theorem VH{c a:Int}(o: -2147483648<=a/\a<=2147483647)(l:m.stack.length<=1000000){op:Nat}(k:op=13\/op=14):
 Ah 161 #[Al V,Aa (op:Nat),.int .i32 c,.int .i32 a] w (A0 V X wc W Q U O waits R w A6 (Dx m op c a) Y):=by
 have j:=LP h 10;by_cases e:a=0
 ·have b:Dx m op c a=m.end_ 10:=by unfold Dx K0;rcases k with rfl|rfl<;>simp[e]
  rw[b];unfold A0 at j;subst e;clear k b;go_enter func161,ntmps161;go_wp2_with(go_at_call 103;refine j.mono ?_;rintro b n⟨rfl,f,g,i⟩);go_end0;exact⟨rfl,f,g,i⟩
 ·have p:(a==0)=false:=by simp[e]
  rcases k with rfl|rfl
  ·have b:Dx m 13 c a=m.push (BW (c.tdiv a)):=by unfold Dx K0;simp[e]
   rw[b];have d:=FS h (Ln (c.tdiv a)) l;have q:=KZ (c.tdiv a);unfold A0 at d;clear j b;go_enter func161,ntmps161;go_wp2_with(go_at_call 105;refine d.mono ?_;rintro b n⟨rfl,f,g,i⟩);go_end0;exact⟨rfl,f,g,i⟩
  ·have b:Dx m 14 c a=m.push (BW (c.tmod a)):=by unfold Dx K0;simp[e]
   rw[b];have d:=FS h (Ln (c.tmod a)) l;rw[Ajr (AiO c e o)] at d⊢;unfold A0 at d;clear j b;go_enter func161,ntmps161;go_wp2_with(go_at_call 105;refine d.mono ?_;rintro b n⟨rfl,f,g,i⟩);go_end0;exact⟨rfl,f,g,i⟩
theorem Adr(a b:Int)(g:m.stack.length<=1000000):
 Ah 135 #[Al V,Aa 10,.int .i32 a,.int .i32 b] w (A0 V X wc W Q U O waits R w A6 (Dx m 10 a b) Y):=by
 have c:Dx m 10 a b=m.push (BW (a+b)):=rfl;rw[c];have d:=FS h (Ln (a+b)) g;have j:=KZ (a+b);unfold A0 at d;clear c;go_enter func135,ntmps135;go_wp2_with(go_at_call 105;refine d.mono ?_;rintro c k⟨rfl,e,f,i⟩);go_end0;exact⟨rfl,e,f,i⟩
theorem Ads(a b:Int)(g:m.stack.length<=1000000):
 Ah 135 #[Al V,Aa 11,.int .i32 a,.int .i32 b] w (A0 V X wc W Q U O waits R w A6 (Dx m 11 a b) Y):=by
 have c:Dx m 11 a b=m.push (BW (a -b)):=rfl;rw[c];have d:=FS h (Ln (a -b)) g;have j:=KZ (a -b);unfold A0 at d;clear c;go_enter func135,ntmps135;go_wp2_with(go_at_call 105;refine d.mono ?_;rintro c k⟨rfl,e,f,i⟩);go_end0;exact⟨rfl,e,f,i⟩
theorem Adt(a b:Int)(g:m.stack.length<=1000000):
 Ah 135 #[Al V,Aa 12,.int .i32 a,.int .i32 b] w (A0 V X wc W Q U O waits R w A6 (Dx m 12 a b) Y):=by
 have c:Dx m 12 a b=m.push (BW (a*b)):=rfl;rw[c];have d:=FS h (Ln (a*b)) g;have j:=KZ (a*b);unfold A0 at d;clear c;go_enter func135,ntmps135;go_wp2_with(go_at_call 105;refine d.mono ?_;rintro c k⟨rfl,e,f,i⟩);go_end0;exact⟨rfl,e,f,i⟩
theorem Adw(a b:Int)(i:m.stack.length<=1000000):
 Ah 135 #[Al V,Aa 15,.int .i32 a,.int .i32 b] w (A0 V X wc W Q U O waits R w A6 (Dx m 15 a b) Y):=by
 have c:Dx m 15 a b=m.push (Cv (a==b)):=rfl;rw[c];have d:=FS h (Ny (a==b)) i;have e:=Ng (a==b) w;unfold A0 at d;clear c;generalize l:(a==b)=k at*;go_enter func135,ntmps135;go_wp2_with(first|(go_at_call 134;refine Aq e ?_)|(go_at_call 105;refine d.mono ?_;rintro c n⟨rfl,f,g,j⟩));go_end0;exact⟨rfl,f,g,j⟩
theorem Adx(a b:Int)(i:m.stack.length<=1000000):
 Ah 135 #[Al V,Aa 16,.int .i32 a,.int .i32 b] w (A0 V X wc W Q U O waits R w A6 (Dx m 16 a b) Y):=by
 have c:Dx m 16 a b=m.push (Cv (a !=b)):=rfl;rw[c];have d:=FS h (Ny (a !=b)) i;have e:=Ng (a !=b) w;unfold A0 at d;clear c;generalize l:(a !=b)=k at*;go_enter func135,ntmps135;go_wp2_with(first|(go_at_call 134;refine Aq e ?_)|(go_at_call 105;refine d.mono ?_;rintro c n⟨rfl,f,g,j⟩));go_end0;exact⟨rfl,f,g,j⟩
theorem Ady(a b:Int)(i:m.stack.length<=1000000):
 Ah 135 #[Al V,Aa 17,.int .i32 a,.int .i32 b] w (A0 V X wc W Q U O waits R w A6 (Dx m 17 a b) Y):=by
 have c:Dx m 17 a b=m.push (Cv (decide (a<b))):=rfl;rw[c];have d:=FS h (Ny (decide (a<b))) i;have e:=Ng (decide (a<b)) w;unfold A0 at d;clear c;generalize l:(decide (a<b))=k at*;go_enter func135,ntmps135;go_wp2_with(first|(go_at_call 134;refine Aq e ?_)|(go_at_call 105;refine d.mono ?_;rintro c n⟨rfl,f,g,j⟩));go_end0;exact⟨rfl,f,g,j⟩
theorem Adz(a b:Int)(i:m.stack.length<=1000000):
 Ah 135 #[Al V,Aa 18,.int .i32 a,.int .i32 b] w (A0 V X wc W Q U O waits R w A6 (Dx m 18 a b) Y):=by
 have c:Dx m 18 a b=m.push (Cv (decide (a>b))):=rfl;rw[c];have d:=FS h (Ny (decide (a>b))) i;have e:=Ng (decide (a>b)) w;unfold A0 at d;clear c;generalize l:(decide (a>b))=k at*;go_enter func135,ntmps135;go_wp2_with(first|(go_at_call 134;refine Aq e ?_)|(go_at_call 105;refine d.mono ?_;rintro c n⟨rfl,f,g,j⟩));go_end0;exact⟨rfl,f,g,j⟩
theorem Adu(b:Int){a:Int}(i: -2147483648<=a/\a<=2147483647)(f:m.stack.length<=1000000):
 Ah 135 #[Al V,Aa 13,.int .i32 b,.int .i32 a] w (A0 V X wc W Q U O waits R w A6 (Dx m 13 b a) Y):=by
 have c:Ah 161 #[Al V,Aa 13,.int .i32 b,.int .i32 a] w (A0 V X wc W Q U O waits R w A6 (Dx m 13 b a) Y):=VH h i f (op:=13) (by omega);unfold A0 at c;generalize Dx m 13 b a=k at*;go_enter func135,ntmps135;go_wp2_with(go_at_call 161;refine c.mono ?_;rintro j l⟨rfl,d,e,g⟩);go_end0;exact⟨rfl,d,e,g⟩
theorem Adv(b:Int){a:Int}(i: -2147483648<=a/\a<=2147483647)(f:m.stack.length<=1000000):
 Ah 135 #[Al V,Aa 14,.int .i32 b,.int .i32 a] w (A0 V X wc W Q U O waits R w A6 (Dx m 14 b a) Y):=by
 have c:Ah 161 #[Al V,Aa 14,.int .i32 b,.int .i32 a] w (A0 V X wc W Q U O waits R w A6 (Dx m 14 b a) Y):=VH h i f (op:=14) (by omega);unfold A0 at c;generalize Dx m 14 b a=k at*;go_enter func135,ntmps135;go_wp2_with(go_at_call 161;refine c.mono ?_;rintro j l⟨rfl,d,e,g⟩);go_end0;exact⟨rfl,d,e,g⟩
theorem AeX(a:Int){b:Int}(d: -2147483648<=b/\b<=2147483647)(c:m.stack.length<=1000000){op:Nat}(e:10<=op)(f:op<=18):
 Ah 135 #[Al V,Aa (op:Nat),.int .i32 a,.int .i32 b] w (A0 V X wc W Q U O waits R w A6 (Dx m op a b) Y):=by
 have:op=10\/op=11\/op=12\/op=13\/op=14\/op=15\/op=16\/op=17\/op=18:=by omega
 rcases this with rfl|rfl|rfl|rfl|rfl|rfl|rfl|rfl|rfl
 ·exact Adr h a b c
 ·exact Ads h a b c
 ·exact Adt h a b c
 ·exact Adu h a d c
 ·exact Adv h a d c
 ·exact Adw h a b c
 ·exact Adx h a b c
 ·exact Ady h a b c
 ·exact Adz h a b c
theorem AfG{a:Int}(f:m.stack.getLast?=some a)(n:m.stack.length<=1000000):
 Ah 113 #[Al V,Aa 19] w (A0 V X wc W Q U O waits R w A6 {m with stack:=m.stack.dropLast++[BW (-a)]} Y):=by
 have d:=JT h f n;have q:m.stack.dropLast.length<=1000000:=by rw[Ib];omega
 have e: ∀c b,MC V X wc W Q c {m with stack:=m.stack.dropLast} U O waits b Y->Ah 105 #[Al V,.int .i32 (BW (-a))] c (A0 V X wc W Q U O waits b c A6 {m with stack:=m.stack.dropLast++[BW (-a)]} Y):=fun c b j=>FS j (Ln (-a)) q;have r:=KZ (-a);unfold A0 at d e;clear f;go_enter func113,ntmps113;go_wp2_with(first|(go_at_call 106;refine d.mono ?_;rintro i s⟨rfl,b,k,o⟩)|(go_at_call 105;refine(e _ _ k).mono ?_;rintro i t⟨rfl,g,l,p⟩));go_end0;exact⟨rfl,g,l,o.trans p⟩
theorem AfH{a:Int}(f:m.stack.getLast?=some a)(o:m.stack.length<=1000000):
 Ah 113 #[Al V,Aa 20] w (A0 V X wc W Q U O waits R w A6 {m with stack:=m.stack.dropLast++[Cv (a==0)]} Y):=by
 have d:=JT h f o;have r:m.stack.dropLast.length<=1000000:=by rw[Ib];omega
 have e: ∀c b,MC V X wc W Q c {m with stack:=m.stack.dropLast} U O waits b Y->Ah 105 #[Al V,.int .i32 (Cv (a==0))] c (A0 V X wc W Q U O waits b c A6 {m with stack:=m.stack.dropLast++[Cv (a==0)]} Y):=fun c b k=>FS k (Ny (a==0)) r;have g:=fun W=>Ng (a==0) W;unfold A0 at d e;generalize t:(a==0)=s at*;clear f;go_enter func113,ntmps113;go_wp2_with(first|(go_at_call 106;refine d.mono ?_;rintro j u⟨rfl,b,l,p⟩)|(go_at_call 134;refine Aq (g _) ?_)|(go_at_call 105;refine(e _ _ l).mono ?_;rintro j v⟨rfl,i,n,q⟩));go_end0;exact⟨rfl,i,n,p.trans q⟩
theorem AfI{a:Int}(f:m.stack.getLast?=some a)(o:m.stack.length<=1000000):
 Ah 113 #[Al V,Aa 21] w (A0 V X wc W Q U O waits R w A6 {m with stack:=m.stack.dropLast++[Cv (a !=0)]} Y):=by
 have d:=JT h f o;have r:m.stack.dropLast.length<=1000000:=by rw[Ib];omega
 have e: ∀c b,MC V X wc W Q c {m with stack:=m.stack.dropLast} U O waits b Y->Ah 105 #[Al V,.int .i32 (Cv (a !=0))] c (A0 V X wc W Q U O waits b c A6 {m with stack:=m.stack.dropLast++[Cv (a !=0)]} Y):=fun c b k=>FS k (Ny (a !=0)) r;have g:=fun W=>Ng (a !=0) W;unfold A0 at d e;generalize t:(a !=0)=s at*;clear f;go_enter func113,ntmps113;go_wp2_with(first|(go_at_call 106;refine d.mono ?_;rintro j u⟨rfl,b,l,p⟩)|(go_at_call 134;refine Aq (g _) ?_)|(go_at_call 105;refine(e _ _ l).mono ?_;rintro j v⟨rfl,i,n,q⟩));go_end0;exact⟨rfl,i,n,p.trans q⟩
theorem AfJ{c f:Int}(e:m.stack.getLast?=some f)(o:m.stack.dropLast.getLast?=some c)(u:m.stack.length<=1000000){op:Nat}(q:10<=op)(r:op<=18):
 Ah 113 #[Al V,Aa (op:Nat)] w (A0 V X wc W Q U O waits R w A6 (Dx {m with stack:=m.stack.dropLast.dropLast} op c f) Y):=by
 have n:=L8 h.rows.rs e;have i:=JT h e u;have z:m.stack.dropLast.length<=1000000:=by rw[Ib];omega
 have A:m.stack.dropLast.dropLast.length<=1000000:=by rw[Ib];omega
 have j: ∀b a,MC V X wc W Q b {m with stack:=m.stack.dropLast} U O waits a Y->Ah 106 #[Al V] b (A0 V X wc W Q U O waits a b (.int .i32 c) {m with stack:=m.stack.dropLast.dropLast} Y):=fun b a d=>JT d o z;have g:=fun b a(d:MC V X wc W Q b {m with stack:=m.stack.dropLast.dropLast} U O waits a Y)=>AeX d c n A q r;unfold A0 at i j g;have E:((op:Int)==19)=false:=by simp;omega
 have F:((op:Int)==20)=false:=by simp;omega
 have G:((op:Int)==21)=false:=by simp;omega
 clear o e n;generalize Dx {m with stack:=m.stack.dropLast.dropLast} op c f=J at*;generalize C:({m with stack:=m.stack.dropLast.dropLast}:MS)=I at*;generalize B:({m with stack:=m.stack.dropLast}:MS)=H at*;clear B C;go_enter func113,ntmps113;go_wp2_with(first|(go_at_call 106;have _q:=l;refine(j _ _ l).mono ?_;rintro k L⟨rfl,D,s,x⟩)|(go_at_call 106;refine i.mono ?_;rintro k K⟨rfl,a,l,v⟩)|(go_at_call 135;refine(g _ _ s).mono ?_;rintro k M⟨rfl,p,t,y⟩));go_end0;exact⟨rfl,p,t,v.trans (x.trans y)⟩
end
def DV(V X wc:Nat)(W:List Nat)(Q:AW)(U O:Nat)(waits:Bool)(R:MR)(w:World)(c:MS)(b:Ending)(I:World):Prop:=
 b=.returned A6/\ ∃a d,MC V X wc W Q I c U O waits a d/\MM V R a w I
section
variable(h:MC V X wc W Q w m U O waits R Y)
include h
theorem CN{a:Nat}(c:W[m.pc]? =some a)(e:W.length<=1000000):
 Ah 102 #[Al V] w fun d I=>d=.returned (Aa (a:Nat))/\MC V X wc W Q I {m with pc:=m.pc+1} U O waits R Y/\MM V R R w I:=by
 have k:m.pc<W.length:=(BH.1 c).1;have f:=h.wdAt;have g:=h.pcAt;have i:=h.rows.wds m.pc a c;have l:=h.frz 1;have b:Hid (MC V X wc W Q w.drew m U O waits R Y):=h.below (Below.refl _ _).drew;have j:(m.pc:Int)<(W.length:Nat):=by omega
 go_enter func102,ntmps102;go_wp2;go_region;all_goals go_wp2
 all_goals go_ret
 all_goals refine⟨rfl,(b.out.setPc (m.pc+1)).1,(MM.of_below (Below.refl _ _).drew).trans (b.out.setPc (m.pc+1)).2⟩
theorem Qx{f:Int}(e:m.stack.getLast?=some f)(x:m.stack.length<=1000000):
 Ah 106 #[Al V] w fun b I=>b=.returned (.int .i32 f)/\ ∃i,i.pl=R.pl/\MC V X wc W Q I {m with stack:=m.stack.dropLast} U O waits i Y/\MM V R i w I:=by
 have n:m.stack≠[]:=fun b=>by rw[b] at e;cases e
 have o:0<m.stack.length:=Mk.2 n;obtain⟨k,cap,c,_,A⟩:=h.rows.st.form o;obtain⟨a,q⟩: ∃a,m.stack.length=a+1:=⟨m.stack.length -1,by omega⟩;have r:=h.stAt;have D:=h.frz 3;have d:=h.rows.st
 have z:w.cell? (Ac k a)=some (.int .i32 f):=by
  rw[c] at d;rw[d.cellAt a (by omega),CC];have:m.stack[a]? =some f:=by rw[UB] at e;rw[<-e];congr 1;omega
  rw[this];rfl
 have g:=h.stackCut c (k:=a) (by omega);have l:m.stack.take a=m.stack.dropLast:=by rw[Uu];congr 1;omega
 rw[l] at g;have j:Hid _:=g
 have y:a+1<=cap:=by
  rcases d.2 with⟨b,p⟩|⟨v,s,Ad,b,_,_,C,_⟩
  ·omega
  ·rw[c] at b;injection b with t p u;omega
 rw[c,q] at r;have B:a<=1000000:=by omega
 clear d g l c o n;go_enter func106,ntmps106;go_wp2;go_ret;exact⟨rfl,{R with st:=Ar k a cap},rfl,j.out.1,j.out.2⟩
theorem AhW(j:W.length<=1000000)(n:W[m.pc]? =some 0):
 Ah 73 #[Al V] w (DV V X wc W Q U O waits R w (({m with pc:=m.pc+1}:MS).end_ 0)):=by
 have b:=CN h n j;have a:=fun d(f:MC V X wc W Q d {m with pc:=m.pc+1} U O waits R Y)=>LP f 0;unfold A0 at a;go_enter func73,ntmps73;go_wp2_with(first|(go_at_call 102;refine b.mono ?_;rintro e Z⟨rfl,g,k⟩)|(go_at_call 103;refine(a _ g).mono ?_;rintro e o⟨rfl,c,i,l⟩));go_end0;exact⟨rfl,c,Y,i,k.trans l⟩
theorem Aib(g:W.length<=1000000)(o:m.stack.length<=1000000)(s:W[m.pc]? =some 2){a:Nat}(t:W[m.pc+1]? =some a):
 Ah 73 #[Al V] w (DV V X wc W Q U O waits R w (({m with pc:=m.pc+2}:MS).push (BW (a:Int)))):=by
 have i:=CN h s g;have j:=fun b(c:MC V X wc W Q b {m with pc:=m.pc+1} U O waits R Y)=>CN c t g;have d:=fun b(c:MC V X wc W Q b {m with pc:=m.pc+1+1} U O waits R Y)=>FS c (Ln (a:Int)) o;have u:=KZ (a:Int);unfold A0 at d;go_enter func73,ntmps73;go_wp2_with(first|(go_at_call 102;have _q:=f;refine(j _ f).mono ?_;rintro e v⟨rfl,l,q⟩)|(go_at_call 102;refine i.mono ?_;rintro e Z⟨rfl,f,p⟩)|(go_at_call 105;refine(d _ l).mono ?_;rintro e x⟨rfl,k,n,r⟩));go_end0;exact⟨rfl,k,Y,n,p.trans (q.trans r)⟩
theorem MC.plCell{a:Nat}{f:Int}(e:m.places[a]? =some f): ∃b cap,R.pl=Ar b m.places.length cap/\a<m.places.length:=by have d:a<m.places.length:=(BH.1 e).1;obtain⟨b,cap,c,_,_⟩:=h.rows.pl.form (by omega);exact⟨b,cap,c,d⟩
theorem MC.plVal{a b cap:Nat}{e:Int}(d:m.places[a]? =some e)(f:R.pl=Ar b m.places.length cap):w.cell? (Ac b a)=some (.int .i32 e)/\w.frozen? (Ac b a)=false:=by have g:a<m.places.length:=(BH.1 d).1;have c:=h.rows.pl;rw[f] at c;refine⟨?_,c.frozenAt a⟩;rw[c.cellAt a (by omega),CC,d];rfl
theorem MC.stVal{a b cap:Nat}{e:Int}(d:m.stack[a]? =some e)(f:R.st=Ar b m.stack.length cap):w.cell? (Ac b a)=some (.int .i32 e)/\w.frozen? (Ac b a)=false:=by have g:a<m.stack.length:=(BH.1 d).1;have c:=h.rows.st;rw[f] at c;refine⟨?_,c.frozenAt a⟩;rw[c.cellAt a (by omega),CC,d];rfl
theorem AhZ(n:W.length<=1000000)(z:m.stack.length<=1000000)(p:W[m.pc]? =some 3){c:Nat}{f:Int}(o:W[m.pc+1]? =some c)(e:m.places[c]? =some f):
 Ah 73 #[Al V] w (DV V X wc W Q U O waits R w (({m with pc:=m.pc+2}:MS).push f)):=by
 obtain⟨g,cap,d,D⟩:=h.plCell e;have q:=h.rows.rp f (Ct e);have r:=CN h p n;have s:=fun a(b:MC V X wc W Q a {m with pc:=m.pc+1} U O waits R Y)=>CN (b.below (Below.refl _ _).drew) o n;have i:=fun a(b:MC V X wc W Q a {m with pc:=m.pc+1+1} U O waits R Y)=>FS b q z;have u: ∀a,MC V X wc W Q a {m with pc:=m.pc+1} U O waits R Y->a.cell? (Ac V 2)=some (Ar g m.places.length cap):=fun a b=>b.plAt.trans (by rw[d]);have v: ∀a,MC V X wc W Q a {m with pc:=m.pc+1+1} U O waits R Y->a.cell? (Ac V 2)=some (Ar g m.places.length cap)/\a.cell? (Ac g c)=some (.int .i32 f):=fun a b=>⟨b.plAt.trans (by rw[d]),(b.plVal e d).1⟩;unfold A0 at i;have E:(c:Int)<(m.places.length:Int):=by omega
 clear d e o p q;generalize m.places.length=I at*;go_enter func73,ntmps73;go_wp2_with(go_at_call 102;refine r.mono ?_;rintro j Z⟨rfl,k,A⟩;have F:=u _ k;have t:=s _ k);go_region_with (first|(go_at_call 102;refine t.mono ?_;rintro j J⟨rfl,l,B⟩;obtain⟨G,H⟩:=v _ l)|(go_at_call 105;refine(i _ l).mono ?_;rintro j K⟨rfl,x,y,C⟩))
 all_goals go_wp2
 all_goals go_end0
 all_goals exact⟨rfl,x,Y,y,A.trans ((MM.of_below (Below.refl _ _).drew).trans (B.trans C))⟩
theorem Aii(k:W.length<=1000000)(o:W[m.pc]? =some 1)(b:m.used=U):
 Ah 73 #[Al V] w (DV V X wc W Q U O waits R w (({m with pc:=m.pc+1}:MS).end_ 8)):=by
 have c:=CN h o k;have a:=fun e(g:MC V X wc W Q e {m with pc:=m.pc+1} U O waits R Y)=>Ai0 g b;unfold A0 at a;clear b;go_enter func73,ntmps73;go_wp2_with(first|(go_at_call 102;refine c.mono ?_;rintro f Z⟨rfl,i,l⟩)|(go_at_call 104;refine(a _ i).mono ?_;rintro f p⟨rfl,d,j,n⟩));go_end0;exact⟨rfl,d,Y,j,l.trans n⟩
theorem Aij(k:W.length<=1000000)(p:W[m.pc]? =some 1)(b:m.used≠U)(o:m.used≠O)(q:m.used<=1000000):
 Ah 73 #[Al V] w (DV V X wc W Q U O waits R w ({m with pc:=m.pc+1,used:=m.used+1})):=by
 have c:=CN h p k;have a:=fun e(g:MC V X wc W Q e {m with pc:=m.pc+1} U O waits R Y)=>Ai1 g b o q;unfold A0 at a;clear b;go_enter func73,ntmps73;go_wp2_with(first|(go_at_call 102;refine c.mono ?_;rintro f Z⟨rfl,i,l⟩)|(go_at_call 104;refine(a _ i).mono ?_;rintro f r⟨rfl,d,j,n⟩));go_end0;exact⟨rfl,d,Y,j,l.trans n⟩
theorem Aik(n:W.length<=1000000)(d:W[m.pc]? =some 1)(e:m.used≠U)(c:m.used=O):
 Ah 73 #[Al V] w (DV V X wc W Q U O true R w (m)):=by
 have f:=CN h d n;have q:m.pc<W.length:=(BH.1 d).1;have b: ∀a,MC V X wc W Q a {m with pc:=m.pc+1} U O waits R Y->Ah 104 #[Al V] a (A0 V X wc W Q U O true R a A6 m Y):=fun a j=>Ai3 j e c (by simp) (by simp only;omega);unfold A0 at b;clear e c;go_enter func73,ntmps73;go_wp2_with(first|(go_at_call 102;refine f.mono ?_;rintro i Z⟨rfl,k,o⟩)|(go_at_call 104;refine(b _ k).mono ?_;rintro i r⟨rfl,g,l,p⟩));go_end0;exact⟨rfl,g,Y,l,o.trans p⟩
theorem Ah4(g:W.length<=1000000)(j:W[m.pc]? =some 22){b:Nat}(i:W[m.pc+1]? =some b):
 Ah 73 #[Al V] w (DV V X wc W Q U O waits R w ({m with pc:=b})):=by
 have k:=CN h j g;have l:=fun a(c:MC V X wc W Q a {m with pc:=m.pc+1} U O waits R Y)=>CN c i g;have HS: ∀a,MC V X wc W Q a {m with pc:=m.pc+1+1} U O waits R Y->MC V X wc W Q (a.setCell (Ac V 1) (Aa (b:Nat))) {m with pc:=b} U O waits R Y/\MM V R R a (a.setCell (Ac V 1) (Aa (b:Nat))):=fun a c=>c.setPc b;clear i j;go_enter func73,ntmps73;go_wp2_with(first|(go_at_call 102;have _q:=f;refine(l _ f).mono ?_;rintro n r⟨rfl,d,p⟩;have q:=d.pcAt;have s:=d.frz 1;have e:Hid _:=HS _ d)|(go_at_call 102;refine k.mono ?_;rintro n Z⟨rfl,f,o⟩));go_end0;exact⟨rfl,R,Y,e.out.1,o.trans (p.trans e.out.2)⟩
theorem Ail(i:W.length<=1000000)(s:m.stack.length<=1000000)(k:W[m.pc]? =some 23){b:Nat}(j:W[m.pc+1]? =some b){c:Int}(l:m.stack.getLast?=some c):
 Ah 73 #[Al V] w (DV V X wc W Q U O waits R w (if c=0 then{m with pc:=b,stack:=m.stack.dropLast} else{m with pc:=m.pc+2,stack:=m.stack.dropLast})):=by
 have n:=CN h k i;have o:=fun a(d:MC V X wc W Q a {m with pc:=m.pc+1} U O waits R Y)=>CN d j i;have e: ∀a,MC V X wc W Q a {m with pc:=m.pc+1+1} U O waits R Y->Ah 108 #[Al V,Aa (b:Nat)] a (A0 V X wc W Q U O waits R a A6 (if c=0 then{m with pc:=b,stack:=m.stack.dropLast} else{m with pc:=m.pc+2,stack:=m.stack.dropLast}) Y):=fun a d=>Ai4 d l s b;unfold A0 at e;clear j k l;generalize(if c=0 then({m with pc:=b,stack:=m.stack.dropLast}:MS) else{m with pc:=m.pc+2,stack:=m.stack.dropLast})=x at*;go_enter func73,ntmps73;go_wp2_with(first|(go_at_call 102;have _q:=g;refine(o _ g).mono ?_;rintro f y⟨rfl,q,u⟩)|(go_at_call 102;refine n.mono ?_;rintro f Z⟨rfl,g,t⟩)|(go_at_call 108;refine(e _ q).mono ?_;rintro f z⟨rfl,p,r,v⟩));go_end0;exact⟨rfl,p,Y,r,t.trans (u.trans v)⟩
theorem AhY(g:W.length<=1000000)(y:m.stack.length<=1000000)(o:W[m.pc]? =some 7){c d:Nat}(l:W[m.pc+1]? =some c)(n:W[m.pc+2]? =some d)(x:c<=2147483647){a:Int}(p:m.stack.getLast?=some a):
 Ah 73 #[Al V] w (DV V X wc W Q U O waits R w (if a<0\/(d:Int)<=a then({m with pc:=m.pc+3,stack:=m.stack.dropLast}:MS).end_ 9 else{m with pc:=m.pc+3,stack:=m.stack.dropLast++[BW (c+a)]})):=by
 have q:=CN h o g;have r:=fun b(e:MC V X wc W Q b {m with pc:=m.pc+1} U O waits R Y)=>CN e l g;have s:=fun b(e:MC V X wc W Q b {m with pc:=m.pc+1+1} U O waits R Y)=>CN e n g;have i: ∀b,MC V X wc W Q b {m with pc:=m.pc+1+1+1} U O waits R Y->Ah 107 #[Al V,Aa (c:Nat),Aa (d:Nat)] b (A0 V X wc W Q U O waits R b A6 (if a<0\/(d:Int)<=a then({m with pc:=m.pc+3,stack:=m.stack.dropLast}:MS).end_ 9 else{m with pc:=m.pc+3,stack:=m.stack.dropLast++[BW (c+a)]}) Y):=fun b e=>AeV e p y c d x;unfold A0 at i;clear l o p n;generalize(if a<0\/(d:Int)<=a then({m with pc:=m.pc+3,stack:=m.stack.dropLast}:MS).end_ 9 else{m with pc:=m.pc+3,stack:=m.stack.dropLast++[BW (c+a)]}:MS)=D at*;go_enter func73,ntmps73;go_wp2_with(first|(go_at_call 102;have _q:=k;refine(s _ k).mono ?_;rintro f F⟨rfl,u,B⟩)|(go_at_call 102;have _q:=j;refine(r _ j).mono ?_;rintro f E⟨rfl,k,A⟩)|(go_at_call 102;refine q.mono ?_;rintro f Z⟨rfl,j,z⟩)|(go_at_call 107;refine(i _ u).mono ?_;rintro f G⟨rfl,t,v,C⟩));go_end0;exact⟨rfl,t,Y,v,z.trans (A.trans (B.trans C))⟩
theorem AhU(e:W.length<=1000000)(o:W[m.pc]? =some 24){c f:Nat}(l:W[m.pc+1]? =some c)(n:W[m.pc+2]? =some f)(i:m.calls.length=30):
 Ah 73 #[Al V] w (DV V X wc W Q U O waits R w (({m with pc:=m.pc+3}:MS).end_ 13)):=by
 have p:=CN h o e;have q:=fun a(b:MC V X wc W Q a {m with pc:=m.pc+1} U O waits R Y)=>CN b l e;have r:=fun a(b:MC V X wc W Q a {m with pc:=m.pc+1+1} U O waits R Y)=>CN b n e;have g: ∀a,MC V X wc W Q a {m with pc:=m.pc+1+1+1} U O waits R Y->Ah 109 #[Al V,Aa (c:Nat),Aa (f:Nat)] a (A0 V X wc W Q U O waits R a A6 (({m with pc:=m.pc+3}:MS).end_ 13) Y):=fun a b=>AeS b i c f;unfold A0 at g;clear l o n i;generalize(({m with pc:=m.pc+3}:MS).end_ 13:MS)=A at*;go_enter func73,ntmps73;go_wp2_with(first|(go_at_call 102;have _q:=k;refine(r _ k).mono ?_;rintro d C⟨rfl,t,y⟩)|(go_at_call 102;have _q:=j;refine(q _ j).mono ?_;rintro d B⟨rfl,k,x⟩)|(go_at_call 102;refine p.mono ?_;rintro d Z⟨rfl,j,v⟩)|(go_at_call 109;refine(g _ t).mono ?_;rintro d D⟨rfl,s,u,z⟩));go_end0;exact⟨rfl,s,Y,u,v.trans (x.trans (y.trans z))⟩
theorem AhV(f:W.length<=1000000)(v:m.stack.length<=1000000)(o:W[m.pc]? =some 24){c b:Nat}(l:W[m.pc+1]? =some c)(n:W[m.pc+2]? =some b)(i:m.calls.length≠30)(B:b<=m.stack.length):
 Ah 73 #[Al V] w (DV V X wc W Q U O waits R w ({m with pc:=c,calls:=m.calls++[(m.pc+3,m.base)],base:=m.stack.length -b})):=by
 have p:=CN h o f;have q:=fun a(d:MC V X wc W Q a {m with pc:=m.pc+1} U O waits R Y)=>CN d l f;have r:=fun a(d:MC V X wc W Q a {m with pc:=m.pc+1+1} U O waits R Y)=>CN d n f;have g: ∀a,MC V X wc W Q a {m with pc:=m.pc+1+1+1} U O waits R Y->Ah 109 #[Al V,Aa (c:Nat),Aa (b:Nat)] a (A0 V X wc W Q U O waits R a A6 ({m with pc:=c,calls:=m.calls++[(m.pc+3,m.base)],base:=m.stack.length -b}) Y):=fun a d=>AeT d i c b B v;unfold A0 at g;clear l o n i;generalize({m with pc:=c,calls:=m.calls++[(m.pc+3,m.base)],base:=m.stack.length -b}:MS)=C at*;go_enter func73,ntmps73;go_wp2_with(first|(go_at_call 102;have _q:=k;refine(r _ k).mono ?_;rintro e E⟨rfl,t,z⟩)|(go_at_call 102;have _q:=j;refine(q _ j).mono ?_;rintro e D⟨rfl,k,y⟩)|(go_at_call 102;refine p.mono ?_;rintro e Z⟨rfl,j,x⟩)|(go_at_call 109;refine(g _ t).mono ?_;rintro e F⟨rfl,s,u,A⟩));go_end0;exact⟨rfl,s,Y,u,x.trans (y.trans (z.trans A))⟩
theorem Ah5(n:W.length<=1000000)(o:m.stack.length<=1000000)(e:W[m.pc]? =some 26){a:Nat×Nat}(d:m.calls.getLast?=some a)(p:m.base<=m.stack.length):
 Ah 73 #[Al V] w (DV V X wc W Q U O waits R w ({m with pc:=a.1,base:=a.2,calls:=m.calls.dropLast,stack:=m.stack.take m.base})):=by
 have f:=CN h e n;have c: ∀b,MC V X wc W Q b {m with pc:=m.pc+1} U O waits R Y->Ah 110 #[Al V] b (A0 V X wc W Q U O waits R b A6 {m with pc:=a.1,base:=a.2,calls:=m.calls.dropLast,stack:=m.stack.take m.base} Y):=fun b j=>Xg j d p o;unfold A0 at c;clear d e;generalize({m with pc:=a.1,base:=a.2,calls:=m.calls.dropLast,stack:=m.stack.take m.base}:MS)=s at*;go_enter func73,ntmps73;go_wp2_with(first|(go_at_call 102;refine f.mono ?_;rintro i Z⟨rfl,k,q⟩)|(go_at_call 110;refine(c _ k).mono ?_;rintro i t⟨rfl,g,l,r⟩));go_end0;exact⟨rfl,g,Y,l,q.trans r⟩
theorem Aim(r:W.length<=1000000)(s:m.stack.length<=1000000)(k:W[m.pc]? =some 28){b:Int}(e:m.stack.getLast?=some b)(j:m.out.length=60):
 Ah 73 #[Al V] w (DV V X wc W Q U O waits R w (({m with pc:=m.pc+1,stack:=m.stack.dropLast}:MS).end_ 12)):=by
 have l:=CN h k r;have x:=L8 h.rows.rs e;have f: ∀a,MC V X wc W Q a {m with pc:=m.pc+1} U O waits R Y->Ah 106 #[Al V] a (A0 V X wc W Q U O waits R a (.int .i32 b) {m with pc:=m.pc+1,stack:=m.stack.dropLast} Y):=fun a d=>JT d e s;have g: ∀a c,MC V X wc W Q a {m with pc:=m.pc+1,stack:=m.stack.dropLast} U O waits c Y->Ah 111 #[Al V,.int .i32 b] a (A0 V X wc W Q U O waits c a A6 (({m with pc:=m.pc+1,stack:=m.stack.dropLast}:MS).end_ 12) Y):=fun a c d=>Ajs d j b;unfold A0 at f g;clear e k j x;generalize(({m with pc:=m.pc+1,stack:=m.stack.dropLast}:MS).end_ 12:MS)=z at*;go_enter func73,ntmps73;go_wp2_with(first|(go_at_call 102;refine l.mono ?_;rintro i Z⟨rfl,o,t⟩)|(go_at_call 106;refine(f _ o).mono ?_;rintro i A⟨rfl,y,p,u⟩)|(go_at_call 111;refine(g _ _ p).mono ?_;rintro i B⟨rfl,n,q,v⟩));go_end0;exact⟨rfl,n,Y,q,t.trans (u.trans v)⟩
theorem Ain(s:W.length<=1000000)(t:m.stack.length<=1000000)(k:W[m.pc]? =some 28){b:Int}(e:m.stack.getLast?=some b)(j:m.out.length≠60):
 Ah 73 #[Al V] w (DV V X wc W Q U O waits R w ({m with pc:=m.pc+1,stack:=m.stack.dropLast,out:=m.out++[b]})):=by
 have n:=CN h k s;have l:=L8 h.rows.rs e;have f: ∀a,MC V X wc W Q a {m with pc:=m.pc+1} U O waits R Y->Ah 106 #[Al V] a (A0 V X wc W Q U O waits R a (.int .i32 b) {m with pc:=m.pc+1,stack:=m.stack.dropLast} Y):=fun a d=>JT d e t;have g: ∀a c,MC V X wc W Q a {m with pc:=m.pc+1,stack:=m.stack.dropLast} U O waits c Y->Ah 111 #[Al V,.int .i32 b] a (A0 V X wc W Q U O waits c a A6 ({m with pc:=m.pc+1,stack:=m.stack.dropLast,out:=m.out++[b]}) Y):=fun a c d=>Ajt d j l;unfold A0 at f g;clear e k j l;generalize({m with pc:=m.pc+1,stack:=m.stack.dropLast,out:=m.out++[b]}:MS)=z at*;go_enter func73,ntmps73;go_wp2_with(first|(go_at_call 102;refine n.mono ?_;rintro i Z⟨rfl,p,u⟩)|(go_at_call 106;refine(f _ p).mono ?_;rintro i A⟨rfl,y,q,v⟩)|(go_at_call 111;refine(g _ _ q).mono ?_;rintro i B⟨rfl,o,r,x⟩));go_end0;exact⟨rfl,o,Y,r,u.trans (v.trans x)⟩
theorem Aic(l:W.length<=1000000)(c:W[m.pc]? =some 29)(b:m.input=[]):
 Ah 73 #[Al V] w (DV V X wc W Q U O waits R w (({m with pc:=m.pc+1}:MS).end_ 11)):=by
 have d:=CN h c l;have a:=fun f(i:MC V X wc W Q f {m with pc:=m.pc+1} U O waits R Y)=>Agh i b;unfold A0 at a;clear b c;go_enter func73,ntmps73;go_wp2_with(first|(go_at_call 102;refine d.mono ?_;rintro g Z⟨rfl,j,n⟩)|(go_at_call 112;refine(a _ j).mono ?_;rintro g p⟨rfl,e,k,o⟩));go_end0;exact⟨rfl,e,Y,k,n.trans o⟩
theorem Aid(o:W.length<=1000000)(p:m.stack.length<=1000000)(b:W[m.pc]? =some 29){d:Int}{c:List Int}(a:m.input=d::c):
 Ah 73 #[Al V] w (DV V X wc W Q U O waits R w ({m with pc:=m.pc+1,stack:=m.stack++[d],input:=c})):=by
 have e:=CN h b o;have f:=fun i(k:MC V X wc W Q i {m with pc:=m.pc+1} U O waits R Y)=>Agi k a p;clear a b;go_enter func73,ntmps73;go_wp2_with(first|(go_at_call 102;refine e.mono ?_;rintro j Z⟨rfl,l,q⟩)|(go_at_call 112;refine(f _ l).mono ?_;rintro j t⟨rfl,g,s,n,r⟩));go_end0;exact⟨rfl,g,s,n,q.trans r⟩
theorem Ah7(n:W.length<=1000000)(o:m.stack.length<=1000000)(d:W[m.pc]? =some 19){b:Int}(e:m.stack.getLast?=some b):
 Ah 73 #[Al V] w (DV V X wc W Q U O waits R w ({m with pc:=m.pc+1,stack:=m.stack.dropLast++[BW (-b)]})):=by
 have f:=CN h d n;have c: ∀a,MC V X wc W Q a {m with pc:=m.pc+1} U O waits R Y->Ah 113 #[Al V,Aa 19] a (A0 V X wc W Q U O waits R a A6 {m with pc:=m.pc+1,stack:=m.stack.dropLast++[BW (-b)]} Y):=fun a j=>AfG j e o;unfold A0 at c;clear e d;generalize({m with pc:=m.pc+1,stack:=m.stack.dropLast++[BW (-b)]}:MS)=r at*;go_enter func73,ntmps73;go_wp2_with(first|(go_at_call 102;refine f.mono ?_;rintro i Z⟨rfl,k,p⟩)|(go_at_call 113;refine(c _ k).mono ?_;rintro i s⟨rfl,g,l,q⟩));go_end0;exact⟨rfl,g,Y,l,p.trans q⟩
theorem Ah8(n:W.length<=1000000)(o:m.stack.length<=1000000)(d:W[m.pc]? =some 20){b:Int}(e:m.stack.getLast?=some b):
 Ah 73 #[Al V] w (DV V X wc W Q U O waits R w ({m with pc:=m.pc+1,stack:=m.stack.dropLast++[Cv (b==0)]})):=by
 have f:=CN h d n;have c: ∀a,MC V X wc W Q a {m with pc:=m.pc+1} U O waits R Y->Ah 113 #[Al V,Aa 20] a (A0 V X wc W Q U O waits R a A6 {m with pc:=m.pc+1,stack:=m.stack.dropLast++[Cv (b==0)]} Y):=fun a j=>AfH j e o;unfold A0 at c;clear e d;generalize({m with pc:=m.pc+1,stack:=m.stack.dropLast++[Cv (b==0)]}:MS)=r at*;go_enter func73,ntmps73;go_wp2_with(first|(go_at_call 102;refine f.mono ?_;rintro i Z⟨rfl,k,p⟩)|(go_at_call 113;refine(c _ k).mono ?_;rintro i s⟨rfl,g,l,q⟩));go_end0;exact⟨rfl,g,Y,l,p.trans q⟩
theorem Ah9(n:W.length<=1000000)(o:m.stack.length<=1000000)(d:W[m.pc]? =some 21){b:Int}(e:m.stack.getLast?=some b):
 Ah 73 #[Al V] w (DV V X wc W Q U O waits R w ({m with pc:=m.pc+1,stack:=m.stack.dropLast++[Cv (b !=0)]})):=by
 have f:=CN h d n;have c: ∀a,MC V X wc W Q a {m with pc:=m.pc+1} U O waits R Y->Ah 113 #[Al V,Aa 21] a (A0 V X wc W Q U O waits R a A6 {m with pc:=m.pc+1,stack:=m.stack.dropLast++[Cv (b !=0)]} Y):=fun a j=>AfI j e o;unfold A0 at c;clear e d;generalize({m with pc:=m.pc+1,stack:=m.stack.dropLast++[Cv (b !=0)]}:MS)=r at*;go_enter func73,ntmps73;go_wp2_with(first|(go_at_call 102;refine f.mono ?_;rintro i Z⟨rfl,k,p⟩)|(go_at_call 113;refine(c _ k).mono ?_;rintro i s⟨rfl,g,l,q⟩));go_end0;exact⟨rfl,g,Y,l,p.trans q⟩
theorem Aia(r:W.length<=1000000)(s:m.stack.length<=1000000){op:Nat}(e:W[m.pc]? =some op)(l:10<=op)(n:op<=18){b c:Int}(g:m.stack.getLast?=some c)(f:m.stack.dropLast.getLast?=some b):
 Ah 73 #[Al V] w (DV V X wc W Q U O waits R w (Dx {m with pc:=m.pc+1,stack:=m.stack.dropLast.dropLast} op b c)):=by
 have i:=CN h e r;have d: ∀a,MC V X wc W Q a {m with pc:=m.pc+1} U O waits R Y->Ah 113 #[Al V,Aa (op:Nat)] a (A0 V X wc W Q U O waits R a A6 (Dx {m with pc:=m.pc+1,stack:=m.stack.dropLast.dropLast} op b c) Y):=fun a o=>AfJ o g f s l n;unfold A0 at d;have x:((op:Int)==0)=false:=by simp;omega
 have y:((op:Int)==1)=false:=by simp;omega
 have z:((op:Int)==2)=false:=by simp;omega
 have I:((op:Int)==3)=false:=by simp;omega
 have J:((op:Int)==4)=false:=by simp;omega
 have K:((op:Int)==5)=false:=by simp;omega
 have L:((op:Int)==6)=false:=by simp;omega
 have M:((op:Int)==7)=false:=by simp;omega
 have N:((op:Int)==8)=false:=by simp;omega
 have P:((op:Int)==9)=false:=by simp;omega
 have A:((op:Int)==22)=false:=by simp;omega
 have B:((op:Int)==23)=false:=by simp;omega
 have C:((op:Int)==24)=false:=by simp;omega
 have D:((op:Int)==25)=false:=by simp;omega
 have E:((op:Int)==26)=false:=by simp;omega
 have F:((op:Int)==27)=false:=by simp;omega
 have G:((op:Int)==28)=false:=by simp;omega
 have H:((op:Int)==29)=false:=by simp;omega
 clear f g e;generalize Dx {m with pc:=m.pc+1,stack:=m.stack.dropLast.dropLast} op b c=v at*;go_enter func73,ntmps73;go_wp2_with(first|(go_at_call 102;refine i.mono ?_;rintro k Z⟨rfl,p,t⟩)|(go_at_call 113;refine(d _ p).mono ?_;rintro k S⟨rfl,j,q,u⟩));go_end0;exact⟨rfl,j,Y,q,t.trans u⟩
end
end
