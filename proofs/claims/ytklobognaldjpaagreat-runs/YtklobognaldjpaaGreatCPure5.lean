/- Expressions: from factors to whole ones. Appending to a slic -/
import Derived.Test.YtklobognaldjpaaGreatCPure3
set_option maxRecDepth 100000
set_option maxHeartbeats 1000000
namespace Go.Proofs.YtklobognaldjpaaGreat
open Go.Proofs.Tryz
open Go.RowKit
theorem Ab7:KJ 227:=Of func227 (by kernel_rfl) (by kernel_rfl)
theorem Ab6:KJ 224:=Of func224 (by kernel_rfl) (by kernel_rfl)
theorem Ab8:KJ 220:=Of func220 (by kernel_rfl) (by kernel_rfl)
theorem Ab4:KJ 215:=Of func215 (by kernel_rfl) (by kernel_rfl)
section
variable{X Y cap:Nat}{T:List Az}{d:Int}{V:AU}
theorem ZJ(w:World)(b:List UInt8)(d:TypeId):FU (w.alloc (.cells #[.string ⟨b.toArray⟩] d)) w.heap.size [bs b]:=by
 intro c e a
 match c,a with
 |0,a=>simp at a;subst a;simp[bs]
 |c+1,a=>simp at a
theorem T7(w:World)(b c:List UInt8)(e:TypeId):FU (w.alloc (.cells #[.string ⟨b.toArray⟩,.string ⟨c.toArray⟩] e)) w.heap.size [bs b,bs c]:=by
 intro d f a
 match d,a with
 |0,a=>simp at a;subst a;simp[bs]
 |1,a=>simp at a;subst a;simp[bs]
 |d+2,a=>simp at a
theorem T8(w:World)(b c d:List UInt8)(f:TypeId):FU (w.alloc (.cells #[.string ⟨b.toArray⟩,.string ⟨c.toArray⟩,.string ⟨d.toArray⟩] f)) w.heap.size [bs b,bs c,bs d]:=by
 intro e g a
 match e,a with
 |0,a=>simp at a;subst a;simp[bs]
 |1,a=>simp at a;subst a;simp[bs]
 |2,a=>simp at a;subst a;simp[bs]
 |e+3,a=>simp at a
theorem QU(w:World)(b c d e:List UInt8)(g:TypeId):FU (w.alloc (.cells #[.string ⟨b.toArray⟩,.string ⟨c.toArray⟩,.string ⟨d.toArray⟩,.string ⟨e.toArray⟩] g)) w.heap.size [bs b,bs c,bs d,bs e]:=by
 intro f h a
 match f,a with
 |0,a=>simp at a;subst a;simp[bs]
 |1,a=>simp at a;subst a;simp[bs]
 |2,a=>simp at a;subst a;simp[bs]
 |3,a=>simp at a;subst a;simp[bs]
 |f+4,a=>simp at a
section
variable(O:AR T)(hF:Fk X Y cap T 229 d V)(U:AM T V)
include O hF U
theorem AiK:Fk X Y cap T 227 d (Jr T V):=by intro w s a hg;have g:=a.lt;go_enter func227,ntmps227;go_wp2_with(go_at_call 214;refine(PB O (a.alloc _) hg Ab5 hF U _ 3 Db (by decide) (T8 w [42] [47] [37] _) (by omega) BG.1).mono ?_;rintro e h⟨v1,rfl,c,b,f⟩);go_ret;exact⟨_,rfl,c.up (by simp),b,((As.refl _ _).alloc _).trans f⟩
theorem Aiu:Fk X Y cap T 224 d (Fq T V):=by intro w s a hg;have g:=a.lt;go_enter func224,ntmps224;go_wp2_with(go_at_call 214;refine(PB O (a.alloc _) hg Ab7 (AiK O hF U) (Kl O U) _ 2 C9 (by decide) (T7 w [43] [45] _) (by omega) BG.2.1).mono ?_;rintro e h⟨v1,rfl,c,b,f⟩);go_ret;exact⟨_,rfl,c.up (by simp),b,((As.refl _ _).alloc _).trans f⟩
theorem AiM:Fk X Y cap T 220 d (Hi T V):=by
 intro w s j hg;have n:=j.lt;have hS:=Aiu O hF U;have h:=Kk O U s hg;cases hs:CL T C5 (Fq T V s).2 with
 |true=>
  have q:=Le O h.1 BG.2.2.1 hs;have c:Hi T V s=(.bin (Ad T (Fq T V s).2).text (Fq T V s).1 (Fq T V (Ab (Fq T V s).2)).1,(Fq T V (Ab (Fq T V s).2)).2):=by unfold Hi DM;rw[hs];rfl
  rw[c];clear c;have f:=fun a(k:PW X Y cap T a (Fq T V s).2)(t:X<a.heap.size)=>QK (k.alloc _) h.1 a.heap.size 4 C5 (by decide) (QU a [61] [35] [60] [62] 9) (by omega);rw[hs] at f;clear hs;go_enter func220,ntmps220;go_wp2_with(first|(go_at_call 224;refine(hS _ _ j hg).mono ?_;rintro e a⟨v1,rfl,m,g,i⟩)|(go_at_call 218;refine(f _ g g.lt).mono ?_;rintro e u⟨rfl,l,b⟩)|(go_at_call 219;refine(WJ l h.1 q Ab6 hS (m.keep ((((As.refl _ _).alloc _).trans b).keepQ n)) n (AT i.size (((As.refl X a).alloc _).trans b).size)).mono ?_;rintro e x⟨v,rfl,p,o,r⟩));go_ret;exact⟨_,rfl,p,o,((i.alloc _).trans b).trans r⟩
 |false=>
  have c:Hi T V s=Fq T V s:=by unfold Hi DM;rw[hs];rfl
  rw[c];clear c;have f:=fun a(k:PW X Y cap T a (Fq T V s).2)(t:X<a.heap.size)=>QK (k.alloc _) h.1 a.heap.size 4 C5 (by decide) (QU a [61] [35] [60] [62] 9) (by omega);rw[hs] at f;clear hs;go_enter func220,ntmps220;go_wp2_with(first|(go_at_call 224;refine(hS _ _ j hg).mono ?_;rintro e a⟨v1,rfl,m,g,i⟩)|(go_at_call 218;refine(f _ g g.lt).mono ?_;rintro e u⟨rfl,l,b⟩));go_ret;exact⟨_,rfl,m.keep ((((As.refl _ _).alloc _).trans b).keepQ n),l,(i.alloc _).trans b⟩
theorem Aa3:Fk X Y cap T 215 d (I5 T V):=by intro w s a hg;have g:=a.lt;go_enter func215,ntmps215;go_wp2_with(go_at_call 214;refine(PB O (a.alloc _) hg Ab8 (AiM O hF U) (Km O U) _ 1 MB (by decide) (ZJ w [97,110,100] _) (by omega) BG.2.2.2.1).mono ?_;rintro e h⟨v1,rfl,c,b,f⟩);go_ret;exact⟨_,rfl,c.up (by simp),b,((As.refl _ _).alloc _).trans f⟩
theorem VO:Fk X Y cap T 207 d (EA T V):=by intro w s a hg;have g:=a.lt;go_enter func207,ntmps207;go_wp2_with(go_at_call 214;refine(PB O (a.alloc _) hg Ab4 (Aa3 O hF U) (Ki O U) _ 1 No (by decide) (ZJ w [111,114] _) (by omega) BG.2.2.2.2).mono ?_;rintro e h⟨v1,rfl,c,b,f⟩);go_ret;exact⟨_,rfl,c.up (by simp),b,((As.refl _ _).alloc _).trans f⟩
end
end
theorem Zj{P:Program}(w:World)(base:Nat)(h q e:TypeId)(d:TypeInfo)(t:Value)(size bytes:Nat)(B:P.underlying h=some (.slice e))(v:P.info? e=some d)(G:d.zero=some t)
 (A:d.size=size)(D:d.bytes=bytes)(J:t.cells.size=size)(I:0<size)
 (r:Value)(b:Nat)(g:List Value)(k:w.ownsRow base e size r b g)
 (j:Addr)(a m:Nat)(f:List Value)(x:f.length=a*size)(y: ∀o i,f[o]? =some i->w.cell? (j.add o)=some i)(h1: ∀i∈f,i.oneCell'=true)
 (C:b+a<=maxLen)(E:(b+a)*bytes<=140737488355328)(M:base<=w.heap.size):
 ∃l s,(Builtin.append_ #[h,h] q #[r,.slice (some j) a m]).run P w=.ok l s/\s.ownsRow base e size l (b+a) (g++f)/\w.grownBy s r.ownBlock/\
  (l.ownBlock=r.ownBlock\/ ∀p,l.ownBlock=some p->w.heap.size<=p):=by
 obtain⟨l,s,z,h2,L,_⟩:=run_append_own (P:=P) w base h q e d t size bytes B v G A D J I r b g k j a m f x y h1 C E M;refine⟨l,s,z,h2,L,?_⟩;rcases k.2 with⟨rfl,rfl⟩|⟨u,cap,Ad,rfl,S,hg,V,T,U,X⟩
 ·have O:w.ownsRow w.heap.size e size Aw 0 g:=⟨k.1,.inl ⟨rfl,rfl⟩⟩;obtain⟨Y,R,c,K,_,_⟩:=run_append_own (P:=P) w w.heap.size h q e d t size bytes B v G A D J I _ 0 g O j a m f x y h1 C E (AA _);rw[z] at c;injection c with n H;subst n;exact .inr fun p F=>(K.lt p F).1
 ·by_cases Q:b+a<=cap
  ·obtain⟨R,c,_,_⟩:=run_append_fits (P:=P) w base h q e d size B v A u b cap g k j a m f x y h1 Q;rw[z] at c;injection c with n H;subst n;exact .inl rfl
  ·have N: ∀o i,g[o]? =some i->w.cell? (((Ac u 0):Addr).add o)=some i:=k.cells (g:=u) rfl;subst A;subst D;have W:b+a<=9223372036854775807:=by simp only[maxLen] at C;omega
   have c:=run_append_grow (P:=P) w h q e d t B v G (Ac u 0) b cap g k.1 N j a m f x y (by omega) (by omega) (growslice_fits (by omega) E);rw[z] at c;injection c with n H;subst n;right;intro p F;simp[Value.ownBlock] at F;omega
theorem Gw{c:Program}{w:World}{v:Array Oper}{x:List Oper}{o:Oper}{j:Act}{q:Exit->Act->World->Prop}(H:o.guard=none)(s y:Operand)(k:TypeId)
 (L:o.op=.call {callee:=.builtin .append,args:= #[s,y],argTypes:= #[k,k]})
 (base:Nat)(e:TypeId)(d:TypeInfo)(p:Value)(size bytes:Nat)(Q:c.underlying k=some (.slice e))(I:c.info? e=some d)(S:d.zero=some p)
 (O:d.size=size)(F:d.bytes=bytes)(T:p.cells.size=size)(P:0<size)
 (h:Value)(f:Nat)(n:List Value)(hs:j.eval s=h)(M:w.ownsRow base e size h f n)
 (m:Addr)(a r:Nat)(g:List Value)(R:j.eval y=.slice (some m) a r)(J:g.length=a*size)(K: ∀t l,g[t]? =some l->w.cell? (m.add t)=some l)(h1: ∀l∈g,l.oneCell'=true)
 (C:f+a<=maxLen)(G:(f+a)*bytes<=140737488355328)(E:base<=w.heap.size)
 (z: ∀b i,i.ownsRow base e size b (f+a) (n++g)->w.grownBy i h.ownBlock->(b.ownBlock=h.ownBlock\/ ∀u,b.ownBlock=some u->w.heap.size<=u)->wpList c v q x (j.put o.dst b) i):wpList c v q (o::x) j w:=by
 refine wpList_plain H fun U D=> ?_;obtain⟨b,i,N,h2,A,B⟩:=Zj (P:=c) w base k o.type e d p size bytes Q I S O F T P h f n M m a r g J K h1 C G E;unfold Oper.wp execOp;simp only[L,resolve,invoke,builtin,Sem.run_bind,Sem.run_pure,Result.andThen_ok,List.map_toArray,Mm,NR,hs,R,N];exact D _ _ (z b i h2 A B)
theorem DY{X:Nat}{w g:World}{base:Nat}{e:TypeId}{size:Nat}{f:Value}{d:Nat}{h:List Value}(b:w.ownsRow base e size f d h)(j:As X w g)(m:X<base):g.ownsRow base e size f d h:=by
 have k:=b.lt;obtain⟨h1,h2⟩:=b;refine⟨h1,?_⟩;rcases h2 with h2|⟨a,cap,Ad,c,hg,i,l⟩
 ·exact .inl h2
 ·exact .inr ⟨a,cap,Ad,c,hg,by rw[j.block a (k a (by rw[c];rfl)).2 (by omega)];exact i,l⟩
def Ed(b:Nat)(c:Value):Nat->Prop:=fun a=>b<=a/\c.ownBlock≠some a
theorem SV{g:Nat}{a:Value}{w b:World}(hg:w.grownBy b a.ownBlock):BR (Ed g a) w b:=
 ⟨hg.size,fun c d f=>hg.block c f (fun e=>d.2 e.symm)⟩
theorem TE{g:Nat}{h c:Value}{w:World}(i:c.ownBlock=h.ownBlock\/ ∀f,c.ownBlock=some f->w.heap.size<=f): ∀a,Ed g h a->a<w.heap.size->Ed g c a:=by
 intro a d j;refine⟨d.1,fun e=> ?_⟩;rcases i with b|b
 ·exact d.2 (b▸e)
 ·have:=b a e;omega
theorem He{X:Nat}{c w g:World}{f:Value}(a:As X c w)(hg:w.grownBy g f.ownBlock)(i: ∀b,f.ownBlock=some b->c.heap.size<=b):As X c g:=
 ⟨hg.os.trans a.os,hg.tape.trans a.tape,hg.output.trans a.output,AT a.size hg.size,fun b d h=>by rw[hg.block b (CF d a.size) (fun e=>by have:=i b e.symm;omega)];exact a.block b d h⟩
theorem PW.grown{X Y cap:Nat}{T:List Az}{w b:World}{s:PS}{g:Value}{base:Nat}(a:PW X Y cap T w s)(hg:w.grownBy b g.ownBlock)(d: ∀f,g.ownBlock=some f->base<=f)(m:X<base)(n:Y<base):PW X Y cap T b s:=by
 have j:=a.lt;have c:b.heap[X]? =w.heap[X]? :=hg.block X j (fun e=>by have:=d X e.symm;omega);have h:b.heap[Y]? =w.heap[Y]? :=hg.block Y a.tlt (fun e=>by have:=d Y e.symm;omega);have e: ∀o,b.cell? (Ac X o)=w.cell? (Ac X o):=fun o=>World.cell?_of_block (w:=w) c
 exact⟨by rw[e];exact a.code,by rw[e];exact a.at_,by rw[e];exact a.toks,by rw[e];exact a.next,
  fun o=>by rw[World.frozen?_of_block (w:=w) c];exact a.frz o,
  fun k l i=>by rw[World.cell?_of_block (w:=w) h];exact a.tok k l i,a.ne,CF a.tlt hg.size,a.size⟩
theorem QM{w:World}{base:Nat}{e:TypeId}{g:Value}{a:List Value}(c:w.ownsRow base e 1 g a.length a):B8 (AY base) w g a:=by
 rcases c.2 with⟨rfl,h⟩|⟨b,cap,Ad,rfl,hg,i,k,_,_,l⟩
 ·exact .inl ⟨rfl,Mi h⟩
 ·refine .inr ⟨b,cap,rfl,hg,(Ju.1 i).1,fun f m d=> ?_⟩;have j:f<a.length:=(BH.1 d).1;have:=c.cellAt (g:=b) (n:=a.length) (cap:=cap) f (by omega);rw[this];exact d
def FI(f:AW)(w:World)(d:List Value)(a:List Ex):Prop:=d.length=a.length/\ ∀(b:Nat) c e,d[b]? =some c->a[b]? =some e->Ca f w c e
theorem FI.keep{a:AW}{w f:World}{d:List Value}{b:List Ex}(c:FI a w d b)(h:BR a w f):FI a f d b:=⟨c.1,fun j k e i g=>(c.2 j k e i g).keep h⟩
theorem FI.weak{b Q':AW}{w:World}{f:List Value}{c:List Ex}(d:FI b w f c)(h: ∀a,b a->a<w.heap.size->Q' a):FI Q' w f c:=⟨d.1,fun j k e i g=>(d.2 j k e i g).weak h⟩
theorem FI.snoc{d:AW}{w:World}{h:List Value}{f:List Ex}{k:Value}{e:Ex}(c:FI d w h f)(n:Ca d w k e):FI d w (h++[k]) (f++[e]):=by
 refine⟨by simp[c.1],fun g l m a b=> ?_⟩;by_cases i:g<h.length
 ·rw[CR i] at a;rw[CR (by rw[<-c.1];exact i)] at b;exact c.2 g l m a b
 ·rw[CS (by omega)] at a;rw[CS (by rw[<-c.1];omega)] at b;rw[c.1] at a;cases j:g -f.length with
  |zero=>rw[j] at a b;simp at a b;subst a b;exact n
  |succ o=>rw[j] at a;simp at a
theorem IE{X b:Nat}{g:Value}{w c:World}(a:As X w c)(h:X<b):BR (Ed b g) w c:=⟨a.size,fun d e f=>a.block d f (by have:=e.1;omega)⟩
theorem FI.grow{X a:Nat}{c g m:Value}{wr l d q:World}{e:TypeId}{z:Nat}{h:List Value}{i:List Ex}{Z:Ex}(n:X<a)(A:a<=wr.heap.size)
 (s:FI (Ed a c) wr h i)(w:wr.ownsRow a e 1 c z h)(k:As X wr l)(v:As X l d)(y:Ca (AY l.heap.size) d m Z)(o:Obj)
 (hg:(d.alloc o).grownBy q c.ownBlock)(x:g.ownBlock=c.ownBlock\/ ∀p,g.ownBlock=some p->(d.alloc o).heap.size<=p):FI (Ed a g) q (h++[m]) (i++[Z]):=by
 have r:FI (Ed a c) (d.alloc o) h i:=s.keep (IE ((k.trans v).alloc o) n);have f:Ca (Ed a c) (d.alloc o) m Z:=(y.weak (fun b f _=>⟨by have:=k.size;unfold AY at f;omega,fun u=>by have:=(w.lt b u).2;have:=k.size;unfold AY at f;omega⟩)).keep (IE ((As.refl X d).alloc o) n);have hc:=r.snoc f;have t:=hc.weak (Q':=fun b=>Ed a c b/\Ed a g b) (fun b h1 h2=>⟨h1,TE x b h1 h2⟩);exact(t.keep ((SV hg).weak fun b j=>j.1)).weak fun b j _=>j.2
section
variable{T:List Az}(O:AR T)
include O
theorem LQ{d:Type}{b:PS->d×PS}(U:AM T b){a:Af}(c:a.toList≠[]){s:PS}(hg:An T s):An T (b (Am T a s)).2/\s.next<=(b (Am T a s)).2.next:=by have h1:=Ch O c hg;have h2:=U (Am T a s) h1.1;exact⟨h2.1,AT h1.2 h2.2⟩
section
variable{Z:AU}(U:AM T Z)
include U
theorem Ae2:AM T (FR T Z):=by
 intro s hg;have h1:=Gn O s hg;unfold FR;split
 ·rename_i b;have h2:=Ew O (Qj O U) Ai h1.1 b;exact⟨h2.1,AT h1.2 h2.2⟩
 ·split
  ·rename_i b;have h2:=Ew O (Kj O U) Ai h1.1 b;have a:=LQ O U (show BK.toList≠[] from Ai) h2.1;exact⟨a.1,AT h1.2 (AT h2.2 a.2)⟩
  ·have a:=LQ O U (show BK.toList≠[] from Ai) h1.1;exact⟨a.1,AT h1.2 a.2⟩
theorem XV{st:PS->St×PS}(hS:AM T st):AM T (Dk T Z st):=by
 intro s hg;have h1:=U s hg;have h2:=LQ O hS (show Bu.toList≠[] from Ai) h1.1;unfold Dk;split
 ·rename_i b;have a:=Ew O hS Ai h2.1 b;exact⟨a.1,AT h1.2 (AT h2.2 a.2)⟩
 ·exact⟨h2.1,AT h1.2 h2.2⟩
theorem X4{st:PS->St×PS}(hS:AM T st):AM T (F6 T Z st):=by intro s hg;have h1:=U s hg;have h2:=LQ O hS (show Eh.toList≠[] from Ai) h1.1;exact⟨h2.1,AT h1.2 h2.2⟩
end
omit O in
theorem OB{st:PS->St×PS}(hS:AM T st):AM T (A7 T st):=by
 intro s hg;unfold A7;split
 ·exact⟨hg,AA _⟩
 ·exact hS s hg
theorem XX{st:PS->St×PS}(hS:AM T st): ∀(b:Nat)(a:List St)(s:PS),An T s->An T (BQ T st b a s).2/\s.next<=(BQ T st b a s).2.next
 |0,a,s,hg=>⟨hg,AA _⟩
 |b+1,a,s,hg=>by
  have h1:=OB hS s hg;rw[BQ];split
  ·rename_i c;have d:=AD O h1.1 c Ai;have h2:=XX hS b (a++(A7 T st s).1) (Ab (A7 T st s).2) d;have e:(Ab (A7 T st s).2).next=(A7 T st s).2.next+1:=rfl
   have:=h1.2;exact⟨h2.1,by omega⟩
  ·exact h1
theorem JQ{st:PS->St×PS}(hS:AM T st):AM T (AK T st):=fun s hg=>XX O hS T.length [] s hg
theorem K7: ∀c,AM T (CV T c)
 |0=>fun s hg=>⟨Gh O 5 s,FO 5 hg⟩
 |c+1=>fun s hg=>by
  have d:=K7 c;have b:=Tv O c;rw[CV];split
  ·exact Ae2 O b s hg
  ·split
   ·rename_i a;exact Ew O (XV O b d) Ai hg a
   ·split
    ·rename_i a;exact Ew O (X4 O b d) Ai hg a
    ·split
     ·rename_i a;have h2:=Ew O (JQ O d) Ai hg a;have e:=Ch O (f:=By) Ai h2.1;exact⟨e.1,AT h2.2 e.2⟩
     ·split
      ·rename_i a;exact Ew O b Ai hg a
      ·split
       ·rename_i a;exact Ew O (Gn O) Ai hg a
       ·exact⟨Gh O 4 s,FO 4 hg⟩
theorem OA:AM T (BT T):=by intro s hg;have h1:=LQ O (JQ O (K7 O 14)) (show Bc.toList≠[] from Ai) hg;have a:=Ch O (f:=By) Ai h1.1;exact⟨a.1,AT h1.2 a.2⟩
theorem K5:AM T (AE T):=by
 intro s hg;have h1:=Gn O s hg;unfold AE;split
 ·rename_i b;have h2:=Ew O (OC O) Ai h1.1 b;have a:=Ch O (f:=Cn) Ai h2.1;exact⟨a.1,AT h1.2 (AT h2.2 a.2)⟩
 ·exact h1
theorem Tw: ∀(b:Nat)(a:List Gl)(s:PS),An T s->An T (Bw T b a s).2/\s.next<=(Bw T b a s).2.next
 |0,a,s,hg=>⟨hg,AA _⟩
 |b+1,a,s,hg=>by
  rw[Bw];split
  ·rename_i c;have h1:=Ew O (K5 O) Ai hg c;have h2:=Tw b (a++[(AE T (Ab s)).1]) (AE T (Ab s)).2 h1.1;exact⟨h2.1,AT h1.2 h2.2⟩
  ·exact⟨hg,AA _⟩
theorem Qm:AM T (BP T):=by intro s hg;have h1:=K5 O s hg;have h2:=Tw O T.length [(AE T s).1] (AE T s).2 h1.1;have a:=Ch O (f:=AQ) Ai h2.1;exact⟨a.1,AT h1.2 (AT h2.2 a.2)⟩
theorem XZ: ∀(b:Nat)(a:List A8)(s:PS),An T s->An T (Bp T b a s).2/\s.next<=(Bp T b a s).2.next
 |0,a,s,hg=>⟨hg,AA _⟩
 |b+1,a,s,hg=>by
  rw[Bp];split
  ·rename_i c;have h1:=Ew O (Gn O) Ai hg c;have h2:=XZ b (a++[(Ap T (Ab s)).1]) (Ap T (Ab s)).2 h1.1;exact⟨h2.1,AT h1.2 h2.2⟩
  ·exact⟨hg,AA _⟩
theorem Qn:AM T (Bf T):=by intro s hg;have h1:=Gn O s hg;have h2:=XZ O T.length [(Ap T s).1] (Ap T s).2 h1.1;exact⟨h2.1,AT h1.2 h2.2⟩
theorem X0:AM T (Cz T):=by
 intro s hg;unfold Cz;split
 ·exact⟨hg,AA _⟩
 ·exact Qn O s hg
theorem Tx: ∀(b:Nat)(a:List A8)(s:PS),An T s->An T (B5 T b a s).2/\s.next<=(B5 T b a s).2.next
 |0,a,s,hg=>⟨hg,AA _⟩
 |b+1,a,s,hg=>by
  rw[B5];split
  ·rename_i d;have h1:=Ew O (Qn O) Ai hg d;have c:=Ch O (f:=AQ) Ai h1.1;have h2:=Tx b (a++(Bf T (Ab s)).1) (Am T AQ (Bf T (Ab s)).2) c.1;exact⟨h2.1,AT h1.2 (AT c.2 h2.2)⟩
  ·exact⟨hg,AA _⟩
theorem X3:AM T (ET T):=by intro s hg;have h1:=Gn O s hg;have h2:=LQ O (X0 O) (show Bl.toList≠[] from Ai) h1.1;exact⟨h2.1,AT h1.2 h2.2⟩
theorem Ty:AM T (Cx T):=by intro s hg;have h1:=X3 O s hg;have h2:=Ch O (f:=AJ) Ai h1.1;have a:=Tx O T.length [] (Am T AJ (ET T s).2) h2.1;exact⟨a.1,AT h1.2 (AT h2.2 a.2)⟩
theorem K6:AM T (AZ T):=by intro s hg;have h1:=Ty O s hg;have h2:=OA O (Cx T s).2 h1.1;have a:=Ch O (f:=AQ) Ai h2.1;exact⟨a.1,AT h1.2 (AT h2.2 a.2)⟩
theorem Ql: ∀(b:Nat)(a:List Gl)(s:PS),An T s->An T (BC T b a s).2/\s.next<=(BC T b a s).2.next
 |0,a,s,hg=>⟨hg,AA _⟩
 |b+1,a,s,hg=>by
  rw[BC];split
  ·rename_i c;have h1:=Ew O (Qm O) Ai hg c;have h2:=Ql b (a++(BP T (Ab s)).1) (BP T (Ab s)).2 h1.1;exact⟨h2.1,AT h1.2 h2.2⟩
  ·split
   ·rename_i c;have h1:=Ew O (K6 O) Ai hg c;have h2:=Ql b (a++[.proc (AZ T (Ab s)).1]) (AZ T (Ab s)).2 h1.1;exact⟨h2.1,AT h1.2 h2.2⟩
   ·split
    ·rename_i c;have h1:=Ew O (K6 O) Ai hg c;have h2:=Ql b (a++[.func (AZ T (Ab s)).1]) (AZ T (Ab s)).2 h1.1;exact⟨h2.1,AT h1.2 h2.2⟩
    ·exact⟨hg,AA _⟩
theorem XW:AM T (BJ T):=fun s hg=>Ql O T.length [] s hg
end
def Av(T:List Az)(s:PS):Prop:=s.code≠0->s.next=T.length -1
def SM(T:List Az){b:Type}(a:PS->b×PS):Prop:= ∀s,Av T s->Av T (a s).2/\(s.code≠0->(a s).2=s)
section
variable{T:List Az}(O:AR T)
theorem EL(a:Nat)(s:PS):Av T (AI T a s):=fun _=>rfl
theorem A4{s:PS}(a:s.code=0):Av T (Ab s):=fun hc=>absurd a hc
theorem GM(a:Nat){s:PS}(hs:Av T s)(hc:s.code≠0):AI T a s=s:=by have:=hs hc;cases s;simp only[AI] at*;simp only[Ae hc,this]
include O
theorem IT{s:PS}(hs:Av T s)(hc:s.code≠0){a:Af}(c:a.toList≠[]):Aj T a s=false:=by
 have:=(MG O s (hs hc)).2;unfold Aj;rw[this];cases b:a.toList with
 |nil=>exact absurd b c
 |cons d e=>rfl
theorem Cp{s:PS}(hs:Av T s){f:Af}(b:f.toList≠[])(a:Aj T f s=true):s.code=0:=by
 by_cases hc:s.code=0
 ·exact hc
 ·rw[IT O hs hc b] at a;cases a
theorem MF{s:PS}(hs:Av T s){b:TK}(c:b≠ .over)(a:AN T b s=true):s.code=0:=by
 by_cases hc:s.code=0
 ·exact hc
 ·have:=(MG O s (hs hc)).1;unfold AN at a;simp at a;rw[this] at a;exact absurd a.symm c
theorem Dq{f:Af}(b:f.toList≠[]){s:PS}(hs:Av T s):Av T (Am T f s)/\(s.code≠0->Am T f s=s):=by
 unfold Am;split
 ·rename_i a;have hc:=Cp O hs b a;exact⟨A4 hc,fun a=>absurd hc a⟩
 ·exact⟨EL 4 s,GM 4 hs⟩
theorem In:SM T (Ap T):=by
 intro s hs;unfold Ap;split
 ·rename_i a;have hc:=MF O hs (by decide) a;exact⟨A4 hc,fun a=>absurd hc a⟩
 ·exact⟨EL 4 s,GM 4 hs⟩
theorem OU:SM T (BV T):=by
 intro s hs;unfold BV;split
 ·rename_i a;have hc:=MF O hs (by decide) a;exact⟨A4 hc,fun a=>absurd hc a⟩
 ·exact⟨EL 4 s,GM 4 hs⟩
theorem GK{s:PS}(hs:Av T s){c:List Af}(e: ∀b∈c,b.toList≠[])(a:CL T c s=true):s.code=0:=by unfold CL at a;rw[IX] at a;obtain⟨b,d,a⟩:=a;exact Cp O hs (e b d) a
theorem Kv{V:AU}(U:SM T V){c:List Af}(e: ∀f∈c,f.toList≠[]): ∀(b:Nat)(a:Ex)(s:PS),Av T s->Av T (Bi T V c b a s).2/\(s.code≠0->(Bi T V c b a s).2=s)
 |0,a,s,hs=>⟨hs,fun _=>rfl⟩
 |b+1,a,s,hs=>by
  rw[Bi];split
  ·rename_i d;have hc:=GK O hs e d;have h1:=U (Ab s) (A4 hc);have h2:=Kv U e b (.bin (Ad T s).text a (V (Ab s)).1) (V (Ab s)).2 h1.1;exact⟨h2.1,fun d=>absurd hc d⟩
  ·exact⟨hs,fun _=>rfl⟩
section
variable{V:AU}(U:SM T V)
include U
theorem QN{a:List Af}(c: ∀b∈a,b.toList≠[]):SM T (BU T V a):=by intro s hs;have h1:=U s hs;have h2:=Kv O U c T.length (V s).1 (V s).2 h1.1;refine⟨h2.1,fun hc=> ?_⟩;have e:=h1.2 hc;show(Bi T V a T.length (V s).1 (V s).2).2=s;rw[h2.2 (by rw[e];exact hc),e]
theorem Kw:SM T (Jr T V):=QN O U BG.1
theorem Lj:SM T (Fq T V):=QN O (Kw O U) BG.2.1
theorem AhH:SM T (DM T V):=by
 intro s hs;have h1:=U s hs;unfold DM;split
 ·rename_i b;have hc:=GK O h1.1 BG.2.2.1 b;have h2:=U (Ab (V s).2) (A4 hc);refine⟨h2.1,fun a=> ?_⟩;rw[h1.2 a] at hc;exact absurd hc a
 ·exact h1
theorem Kx:SM T (Hi T V):=AhH O (Lj O U)
theorem Ku:SM T (I5 T V):=QN O (Kx O U) BG.2.2.2.1
theorem JX:SM T (EA T V):=QN O (Ku O U) BG.2.2.2.2
end
theorem OR{V:AU}(U:SM T V): ∀(b:Nat)(a:List Ex)(s:PS),Av T s->Av T (Bj T V b a s).2/\(s.code≠0->(Bj T V b a s).2=s)
 |0,a,s,hs=>⟨hs,fun _=>rfl⟩
 |b+1,a,s,hs=>by
  rw[Bj];split
  ·rename_i c;have hc:=Cp O hs Ai c;have h1:=U (Ab s) (A4 hc);have h2:=OR U b (a++[(V (Ab s)).1]) (V (Ab s)).2 h1.1;exact⟨h2.1,fun c=>absurd hc c⟩
  ·exact⟨hs,fun _=>rfl⟩
omit O in
theorem F3{s1 s2 s:PS}(h1:Av T s1/\(s.code≠0->s1=s))(h2:Av T s1->Av T s2/\(s1.code≠0->s2=s1)):Av T s2/\(s.code≠0->s2=s):=
 ⟨(h2 h1.1).1,fun hc=>by have e:=h1.2 hc;rw[(h2 h1.1).2 (by rw[e];exact hc),e]⟩
theorem Li{V:AU}(U:SM T V):SM T (Ba T V):=by
 intro s hs;unfold Ba;split
 ·rename_i a;have hc:=Cp O hs Ai a;exact⟨A4 hc,fun a=>absurd hc a⟩
 ·exact F3 (F3 (U s hs) (OR O U T.length [(V s).1] (V s).2)) (Dq O (show AJ.toList≠[] from Ai))
theorem JY{V:AU}(U:SM T V):SM T (Cg T V):=fun s hs=>F3 (U s hs) (Dq O (show Cn.toList≠[] from Ai))
theorem FE{e:Type}{a:PS->e×PS}(U:SM T a){c:Af}(d:c.toList≠[]){s:PS}(hs:Av T s)(b:Aj T c s=true):Av T (a (Ab s)).2/\(s.code≠0->(a (Ab s)).2=s):=by have hc:=Cp O hs d b;exact⟨(U (Ab s) (A4 hc)).1,fun b=>absurd hc b⟩
theorem AhE{V:AU}(U:SM T V):SM T (FQ T V):=by
 intro s hs;have h1:=In O s hs;unfold FQ;split
 ·rename_i a;exact F3 h1 (fun b=>FE O (Li O U) Ai b a)
 ·split
  ·rename_i a;exact F3 h1 (fun b=>FE O (JY O U) Ai b a)
  ·exact h1
theorem Zw: ∀c,SM T (Da T c)
 |0=>fun s hs=>⟨EL 5 s,GM 5 hs⟩
 |c+1=>fun s hs=>by
  have b:=Zw c;have d:=JX O b;rw[Da];split
  ·exact OU O s hs
  ·split
   ·exact AhE O d s hs
   ·split
    ·rename_i a;exact F3 (FE O d Ai hs a) (Dq O (show AJ.toList≠[] from Ai))
    ·split
     ·rename_i a;exact FE O b Ai hs a
     ·split
      ·rename_i a;exact FE O b Ai hs a
      ·exact⟨EL 4 s,GM 4 hs⟩
theorem AhD(a:Nat):SM T (EQ T a):=JX O (Zw O a)
theorem OQ{d:Type}{a:PS->d×PS}(U:SM T a){b:Af}(c:b.toList≠[]){s:PS}(hs:Av T s):Av T (a (Am T b s)).2/\(s.code≠0->(a (Am T b s)).2=s):=
 F3 (Dq O c hs) (U _)
section
variable{Z:AU}(U:SM T Z)
include U
theorem AhF:SM T (FR T Z):=by
 intro s hs;have h1:=In O s hs;unfold FR;split
 ·rename_i a;exact F3 h1 (fun b=>FE O (Li O U) Ai b a)
 ·split
  ·rename_i a;exact F3 (F3 h1 (fun b=>FE O (JY O U) Ai b a)) (OQ O U (show BK.toList≠[] from Ai))
  ·exact F3 h1 (OQ O U (show BK.toList≠[] from Ai))
theorem Zv{st:PS->St×PS}(hS:SM T st):SM T (Dk T Z st):=by
 intro s hs;have h2:=F3 (U s hs) (OQ O hS (show Bu.toList≠[] from Ai));unfold Dk;split
 ·rename_i a;exact F3 h2 (fun b=>FE O hS Ai b a)
 ·exact h2
theorem Zz{st:PS->St×PS}(hS:SM T st):SM T (F6 T Z st):=fun s hs=>F3 (U s hs) (OQ O hS (show Eh.toList≠[] from Ai))
end
omit O in
theorem OT{st:PS->St×PS}(hS:SM T st):SM T (A7 T st):=by
 intro s hs;unfold A7;split
 ·exact⟨hs,fun _=>rfl⟩
 ·exact hS s hs
theorem Zx{st:PS->St×PS}(hS:SM T st): ∀(b:Nat)(a:List St)(s:PS),Av T s->Av T (BQ T st b a s).2/\(s.code≠0->(BQ T st b a s).2=s)
 |0,a,s,hs=>⟨hs,fun _=>rfl⟩
 |b+1,a,s,hs=>by
  have h1:=OT hS s hs;rw[BQ];split
  ·rename_i d;have hc:=Cp O h1.1 Ai d;have h2:=Zx hS b (a++(A7 T st s).1) (Ab (A7 T st s).2) (A4 hc);refine⟨h2.1,fun c=> ?_⟩;rw[h1.2 c] at hc;exact absurd hc c
  ·exact h1
theorem JZ{st:PS->St×PS}(hS:SM T st):SM T (AK T st):=fun s hs=>Zx O hS T.length [] s hs
theorem OV: ∀c,SM T (CV T c)
 |0=>fun s hs=>⟨EL 5 s,GM 5 hs⟩
 |c+1=>fun s hs=>by
  have d:=OV c;have b:=AhD O c;rw[CV];split
  ·exact AhF O b s hs
  ·split
   ·rename_i a;exact FE O (Zv O b d) Ai hs a
   ·split
    ·rename_i a;exact FE O (Zz O b d) Ai hs a
    ·split
     ·rename_i a;exact F3 (FE O (JZ O d) Ai hs a) (Dq O (show By.toList≠[] from Ai))
     ·split
      ·rename_i a;exact FE O b Ai hs a
      ·split
       ·rename_i a;exact FE O (In O) Ai hs a
       ·exact⟨EL 4 s,GM 4 hs⟩
end
