/- The program's look at names: every statement. The program's  -/
import Derived.Test.YtklobognaldjpaaGreatCLk5
import Derived.Deep.AppendLies
import Derived.Laws.OwnMore
set_option maxRecDepth 1000000
set_option maxHeartbeats 2000000
namespace Go.Proofs.YtklobognaldjpaaGreat
open Go.Proofs.Tryz
open Go.RowKit
section
variable{O U X Y:Nat}{V:Option Nat}{w:World}{c:Nat×Nat}{L:Ds}{E:Ao}{Q:AW}
theorem Aey:LS O U X Y V L E .nil:=by intro Q w v c h e a d b;cases a;rw[A5,Gu];go_enter func150,ntmps150;go_wp2;go_end0;exact⟨rfl,h,As.refl _ _⟩
theorem Aeu(a:Af)(p:Nat)(e:Ex):LS O U X Y V L E (.assign a p e):=by
 intro Q w v c h l t i f;cases t with
 |assign _ _ g=>
 rename_i n;have z:=h.lt;have m: ∀b,Ay w (w.alloc b):=fun b=>AP;rw[Dc] at f;have D:=g.cells;have G:=Cf g.one;have A:a.size<=maxLen:=by have:=f.1.2;unfold maxLen;omega
 have u: ∀b,Ah 169 #[Al O,.agg #[.string a,Aa p]] (w.alloc b) (DP O U X Y V L (AF (GD E a p) c) (w.alloc b)):=fun b=>by rw[<-AiJ l f.1.1];exact AiG (h.below (m b)) A p
 have o: ∀d,PL O U X Y V d (AF (GD E a p) c) L->As O w d->Ah 170 #[Al O,n] d (DP O U X Y V L (AF (A5 E (.assign a p e)) c) d):=fun d q x=>by rw[A5,<-FT _ _ (TB _ _ _)];exact Jf e Q d n _ q (Jn l _) (g.keep (FZ i x)) i f.2
 generalize AF (A5 E (.assign a p e)) c=C at*;generalize AF (GD E a p) c=B at*;go_enter func150,ntmps150;go_wp2_with(first|(go_at_call 169;refine(u _).mono ?_;rintro e d⟨rfl,r,j⟩;have F:=IS z j 2;have k:=(As.of_below (m _)).trans j)|(go_at_call 170;refine(o _ r k).mono ?_;rintro e H⟨rfl,s,y⟩));go_end0;exact⟨rfl,s,k.trans y⟩
theorem AeA(b:Af)(p:Nat)(f e:Ex):LS O U X Y V L E (.put b p f e):=by
 intro Q w v c h o F i g;cases F with
 |put _ _ k l=>
 rename_i y x;have t:=h.lt;have u: ∀d,Ay w (w.alloc d):=fun d=>AP;rw[Dc] at g;have R:=k.cells;have Z:=Cf k.one;have S:=l.cells;have aa:=Cf l.one;have K:b.size<=maxLen:=by have:=g.1.2;unfold maxLen;omega
 have G: ∀d,Ah 171 #[Al O,.agg #[.string b,Aa p],Aa 2] (w.alloc d) (DP O U X Y V L (AF (Dz E b p 1) c) (w.alloc d)):=fun d=>by rw[<-Nw o];exact NC (h.below (u d)) K p 1
 have z: ∀a,PL O U X Y V a (AF (Dz E b p 1) c) L->As O w a->Ah 170 #[Al O,y] a (DP O U X Y V L (AF ((Dz E b p 1).or (AV E f)) c) a):=fun a m n=>by rw[<-FT _ _ (IR _ _ _ _)];exact Jf f Q a y _ m (Jn o _) (k.keep (FZ i n)) i g.2.1
 have A: ∀a,PL O U X Y V a (AF ((Dz E b p 1).or (AV E f)) c) L->As O w a->Ah 170 #[Al O,x] a (DP O U X Y V L (AF (A5 E (.put b p f e)) c) a):=fun a m n=>by rw[A5,<-FT _ _ ((IR _ _ _ _).or (DG _ _))];exact Jf e Q a x _ m (Jn o _) (l.keep (FZ i n)) i g.2.2
 generalize AF (A5 E (.put b p f e)) c=P at*;generalize AF ((Dz E b p 1).or (AV E f)) c=M at*;generalize AF (Dz E b p 1) c=N at*;go_enter func150,ntmps150;go_wp2_with(first|(go_at_call 171;refine(G _).mono ?_;rintro e a⟨rfl,B,j⟩;have T:=IS t j 2;have H:=IS t j 3;have q:=(As.of_below (u _)).trans j;have J:w.heap.size<a.heap.size:=CF (by simp) j.size)|(go_at_call 170;refine(A _ C s).mono ?_;rintro e ac⟨rfl,D,I⟩)|(go_at_call 170;refine(z _ B q).mono ?_;rintro e ab⟨rfl,C,r⟩;have W:=(Lb r J (by omega) 3).trans H;have s:=q.trans r));go_end0;exact⟨rfl,D,s.trans I⟩
theorem Aez(b:Af)(p:Nat)(args:List Ex):LS O U X Y V L E (.proc b p args):=by
 intro Q w v c h q m i e;cases m with
 |proc _ _ d g=>
 rename_i k r;have u:=h.lt;have f: ∀a,Ay w (w.alloc a):=fun a=>AP;rw[Dc] at e;have x:=Cf (JW d);have n: ∀a,Ah 172 #[Al O,.agg #[.string b,Aa p],k,Aa 3] (w.alloc a) (DP O U X Y V L (AF (A5 E (.proc b p args)) c) (w.alloc a)):=fun a=>by rw[A5];have j:=FZ i (As.of_below (pb:=O) (f a));exact Xf (Tq args) Q _ k r b p 2 c (.inl rfl) (h.below (f a)) q (d.keep j) (g.keep j) i e.1 e.2.1 e.2.2
 obtain⟨y,z,rfl⟩:=d.len;clear d g;generalize AF (A5 E (.proc b p args)) c=s at*;go_enter func150,ntmps150;go_wp2_with(go_at_call 172;refine(n _).mono ?_;rintro t A⟨rfl,l,o⟩);go_end0;exact⟨rfl,l,(As.of_below (f _)).trans o⟩
theorem Aew(b:Ex){e g:St}(P:LS O U X Y V L E e)(N:LS O U X Y V L E g):LS O U X Y V L E (.ite b e g):=by
 intro Q w v c h p H f i;cases H with
 |ite k l m=>
 rename_i y A z;have x:=h.lt;have q: ∀d,Ay w (w.alloc d):=fun d=>AP;rw[Dc] at i;have W:=k.cells;have ad:=Cf k.one;have Z:=l.cells;have ae:=Cf l.one;have ab:=m.cells;have af:=Cf m.one
 have I: ∀d,Ah 170 #[Al O,y] (w.alloc d) (DP O U X Y V L (AF (AV E b) c) (w.alloc d)):=fun d=>
  Jf b Q _ y _ (h.below (q d)) p (k.keep (FZ f (As.of_below (q _)))) f i.1
 have B: ∀a,PL O U X Y V a (AF (AV E b) c) L->As O w a->Ah 150 #[Al O,A] a (DP O U X Y V L (AF ((AV E b).or (A5 E e)) c) a):=fun a n o=>by rw[<-FT _ _ (DG _ _)];exact P Q a A _ n (Jn p _) (l.keep (FZ f o)) f i.2.1
 have C: ∀a,PL O U X Y V a (AF ((AV E b).or (A5 E e)) c) L->As O w a->Ah 150 #[Al O,z] a (DP O U X Y V L (AF (A5 E (.ite b e g)) c) a):=fun a n o=>by rw[A5,<-FT _ _ ((DG _ _).or (Nk _ _))];exact N Q a z _ n (Jn p _) (m.keep (FZ f o)) f i.2.2
 generalize AF (A5 E (.ite b e g)) c=T at*;generalize AF ((AV E b).or (A5 E e)) c=R at*;generalize AF (AV E b) c=S at*;go_enter func150,ntmps150;go_wp2_with(first|(go_at_call 170;refine(I _).mono ?_;rintro r a⟨rfl,D,j⟩;have aa:=IS x j 1;have J:=IS x j 2;have s:=(As.of_below (q _)).trans j;have M:w.heap.size<a.heap.size:=CF (by simp) j.size)|(go_at_call 150;refine(C _ F u).mono ?_;rintro r ah⟨rfl,G,K⟩)|(go_at_call 150;refine(B _ D s).mono ?_;rintro r ag⟨rfl,F,t⟩;have ac:=(Lb t M (by omega) 2).trans J;have u:=s.trans t));go_end0;exact⟨rfl,G,u.trans K⟩
theorem Aex(b:Ex){f:St}(C:LS O U X Y V L E f):LS O U X Y V L E (.loop b f):=by
 intro Q w v c h n x e j;cases x with
 |loop g i=>
 rename_i o p;have B:=h.lt;have k: ∀a,Ay w (w.alloc a):=fun a=>AP;rw[Dc] at j;have G:=g.cells;have J:=Cf g.one;have H:=i.cells;have K:=Cf i.one
 have y: ∀a,Ah 170 #[Al O,o] (w.alloc a) (DP O U X Y V L (AF (AV E b) c) (w.alloc a)):=fun a=>
  Jf b Q _ o _ (h.below (k a)) n (g.keep (FZ e (As.of_below (k _)))) e j.1
 have r: ∀d,PL O U X Y V d (AF (AV E b) c) L->As O w d->Ah 150 #[Al O,p] d (DP O U X Y V L (AF (A5 E (.loop b f)) c) d):=fun d s z=>by rw[A5,<-FT _ _ (DG _ _)];exact C Q d p _ s (Jn n _) (i.keep (FZ e z)) e j.2
 generalize AF (A5 E (.loop b f)) c=F at*;generalize AF (AV E b) c=D at*;go_enter func150,ntmps150;go_wp2_with(first|(go_at_call 170;refine(y _).mono ?_;rintro q d⟨rfl,t,l⟩;have I:=IS B l 1;have m:=(As.of_below (k _)).trans l)|(go_at_call 150;refine(r _ t m).mono ?_;rintro q M⟨rfl,u,A⟩));go_end0;exact⟨rfl,u,m.trans A⟩
theorem Aev{e:List St}(u: ∀b∈e,LS O U X Y V L E b):LS O U X Y V L E (.block e):=by
 intro Q w v c h s o k f;cases o with
 |block d i j=>
 rename_i m y;have A:=h.lt;have g: ∀a,Ay w (w.alloc a):=fun a=>AP;rw[Dc] at f;have B:=Cf (JW d);have p: ∀a,Ah 121 #[Al O,m] (w.alloc a) (DP O U X Y V L (AF (A5 E (.block e)) c) (w.alloc a)):=fun a=>by rw[A5];have l:=FZ k (As.of_below (pb:=O) (g a));exact Xx u Q _ m y c (h.below (g a)) s (d.keep l) ⟨i,fun x v b t q=>(j x v b t q).keep l⟩ k f.1 f.2
 obtain⟨C,D,rfl⟩:=d.len;clear d i j;generalize AF (A5 E (.block e)) c=z at*;go_enter func150,ntmps150;go_wp2_with(go_at_call 121;refine(p _).mono ?_;rintro b F⟨rfl,n,r⟩);go_end0;exact⟨rfl,n,(As.of_below (g _)).trans r⟩
theorem AeC(b:Ex):LS O U X Y V L E (.write b):=by
 intro Q w v c h n k g f;cases k with
 |write d=>
 rename_i i;have q:=h.lt;have e: ∀a,Ay w (w.alloc a):=fun a=>AP;rw[Dc] at f;have p:=d.cells;have r:=Cf d.one;have l: ∀a,Ah 170 #[Al O,i] (w.alloc a) (DP O U X Y V L (AF (A5 E (.write b)) c) (w.alloc a)):=fun a=>by rw[A5];exact Jf b Q _ i _ (h.below (e a)) n (d.keep (FZ g (As.of_below (e _)))) g f
 generalize AF (A5 E (.write b)) c=o at*;go_enter func150,ntmps150;go_wp2_with(go_at_call 170;refine(l _).mono ?_;rintro b s⟨rfl,j,m⟩);go_end0;exact⟨rfl,j,(As.of_below (e _)).trans m⟩
theorem AeB(b:Af)(p:Nat):LS O U X Y V L E (.read b p):=by
 intro Q w v c h l g o d;cases g;have q:=h.lt;have e: ∀a,Ay w (w.alloc a):=fun a=>AP;rw[Dc] at d;have k:b.size<=maxLen:=by have:=d.2;unfold maxLen;omega
 have i: ∀a,Ah 171 #[Al O,.agg #[.string b,Aa p],Aa 1] (w.alloc a) (DP O U X Y V L (AF (A5 E (.read b p)) c) (w.alloc a)):=fun a=>by rw[A5,<-Nw l];exact NC (h.below (e a)) k p 0
 generalize AF (A5 E (.read b p)) c=m at*;go_enter func150,ntmps150;go_wp2_with(go_at_call 171;refine(i _).mono ?_;rintro n r⟨rfl,f,j⟩);go_end0;exact⟨rfl,f,(As.of_below (e _)).trans j⟩
mutual
theorem Qh: ∀s,LS O U X Y V L E s
 |.nil=>Aey
 |.assign b p a=>Aeu b p a
 |.put b p l a=>AeA b p l a
 |.proc b p args=>Aez b p args
 |.ite d f i=>Aew d (Qh f) (Qh i)
 |.loop d f=>Aex d (Qh f)
 |.block c=>Aev (Tp c)
 |.write a=>AeC a
 |.read b p=>AeB b p
theorem Tp: ∀(c:List St),∀a∈c,LS O U X Y V L E a
 |[]=>fun a e=>by simp at e
 |g::c=>fun a e=>by
  have j:=Qh g;have k:=Tp c;rcases C0.1 e with h|h
  ·rw[h];exact j
  ·exact k a h
end
theorem Xw(a:List St):LL O U X Y V L E a:=Xx (Tp a)
end
structure Fr(S:AW)(w Z:World):Prop where
 os:Z.os=w.os
 tape:Z.tape=w.tape
 output:Z.output=w.output
 size:w.heap.size<=Z.heap.size
 block: ∀k,k<w.heap.size-> ¬S k->Z.heap[k]? =w.heap[k]?
theorem Fr.refl(a:AW)(w:World):Fr a w w:=⟨rfl,rfl,rfl,AA _,fun _ _ _=>rfl⟩
theorem Fr.trans{b:AW}{d e c:World}(h:Fr b d e)(a:Fr b e c):Fr b d c:=
 ⟨a.os.trans h.os,a.tape.trans h.tape,a.output.trans h.output,AT h.size a.size,fun i f g=>(a.block i (CF f h.size) g).trans (h.block i f g)⟩
theorem Fr.weak{c d:AW}{b e:World}(h:Fr c b e)(j: ∀a,a<b.heap.size->c a->d a):Fr d b e:=⟨h.os,h.tape,h.output,h.size,fun a f i=>h.block a f fun g=>i (j a f g)⟩
theorem Fr.of_par{O:Nat}{a:AW}{b c:World}(h:As O b c)(g:a O):Fr a b c:=⟨h.os,h.tape,h.output,h.size,fun i e f=>h.block i e fun d=>f (d▸g)⟩
theorem Fr.of_below{S:AW}{w Z:World}(h:Ay w Z):Fr S w Z:=⟨h.os,h.tape,h.output,h.size,fun b a _=>h.block b a⟩
theorem Fr.of_grown{mb:Nat}{S:AW}{a b:World}(h:a.grownBy b (some mb))(g:S mb):Fr S a b:=⟨h.os,h.tape,h.output,h.size,fun i e f=>h.block i e fun c=>f (by injection c with d;exact d▸g)⟩
theorem Fr.cell{b:AW}{a c:World}(h:Fr b a c){k:Nat}(d:k<a.heap.size)(e: ¬b k)(o:Nat):c.cell? (Ac k o)=a.cell? (Ac k o):=World.cell?_of_block (w:=a) (h.block k d e)
theorem Fr.keepQ{b Q:AW}{c a:World}(h:Fr b c a)(g: ∀a,Q a-> ¬b a):BR Q c a:=⟨h.size,fun d e f=>h.block d f (g d e)⟩
section
variable{O U X Y:Nat}{V:Option Nat}{w Z:World}{c:Nat×Nat}{L:Ds}{E:Ao}{Q:AW}
theorem AfT{O:Nat}{w Z:World}{a c:Array Value}{b d:TypeId}(h:O<w.heap.size)(e:As O ((w.alloc (.cells a b)).alloc (.cells c d)).drew Z):
 (∀o,Z.cell? (Ac w.heap.size o)=a[o]?)/\(∀o,Z.cell? (Ac (w.heap.size+1) o)=c[o]?):=by
 constructor
 ·intro o;rw[Lb e (by simp;omega) (by omega)];show((w.alloc (.cells a b)).alloc (.cells c d)).cell? _=_;rw[EW _ _ _ (by simp)];exact Cl w a b o
 ·intro o;rw[Lb e (by simp) (by omega)];show((w.alloc (.cells a b)).alloc (.cells c d)).cell? _=_;have f:w.heap.size+1=(w.alloc (.cells a b)).heap.size:=by simp
  rw[f];exact Cl (w.alloc (.cells a b)) c d o
theorem AaD(w:World){f:Array Oper}{g:List Oper}{o:Oper}{a:Act}{Q:Exit->Act->World->Prop}
 (l:o.guard=none)(e i v:Operand)(q:o.op=Op.mapUpdate 201 e i v)(b c:Nat)(d:Af->Nat×Nat)
 (n:a.eval e=.map (some b))(h:Dh w b c d)(p:c<maxLen)(key:Af)(s:Nat×Nat)(u:a.eval i=.string key)(t:a.eval v=Ci s)(m:key.size<=maxLen)
 (j: ∀Z,Dh Z b (c+1) (Ik d key s)->w.grownBy Z (some b)->wpList prog f Q g (a.put o.dst undef) Z):
 wpList prog f Q (o::g) a w:=by
 refine wpList_plain l fun z k=> ?_;obtain⟨Z,r,x,y⟩:=h.update m p s;unfold Oper.wp;simp[execOp,q,n,u,t,r,Result.andThen];exact k _ _ (j Z x y)
theorem VA(h:PL O U X Y V w c L){mb f:Nat}{e:Af->Nat×Nat}(r:Dh w mb f e)(x:mb≠O)(y:f<maxLen){d:Af}(m:d.size<=maxLen)(p:Nat)(s:Nat×Nat):
 Ah 147 #[Al O,.map (some mb),.agg #[.string d,Aa p],Ci s] w fun o Z=>o=.returned A6/\ ∃n,PL O U X Y V n (AF (if(e d).1=0 then none else some (6,p)) c) L/\As O w n/\Dh Z mb (f+1) (Ik e d s)/\n.grownBy Z (some mb):=by
 have D:=h.lt;have F:=ZN;have i: ∀a b,Ay w ((w.alloc a).alloc b):=fun a b=>AP.alloc (by simp) _;have t: ∀a b,Dh ((w.alloc a).alloc b) mb f e:=fun a b=>r.par (As.of_below (i a b)) x;have q: ∀a b,(Instr.lookup 201 (.map (some mb)) (.string d) false).run prog ((w.alloc a).alloc b)=.ok (Ci (e d)) ((w.alloc a).alloc b):=fun a b=>(t a b).lookup m;have A: ∀a b,PL O U X Y V ((w.alloc a).alloc b).drew c L:=fun a b=>h.below (i a b).drew;generalize G:e d=z at*;unfold Ci at q⊢;by_cases g:z.1=0
 ·rw[Ag g,Gu];rw[g] at q;clear g;go_enter func147,ntmps147;go_wp2_with(at_mapUpdate;refine AaD _ rfl _ _ _ rfl mb f e rfl (t _ _) y d s rfl rfl m ?_;intro E k l);go_end0;exact⟨rfl,_,h.below (i _ _),As.of_below (i _ _),k,l⟩
 ·rw[Ae g];have H:((z.1:Int) !=0)=true:=by simp;omega
  clear g;go_enter func147,ntmps147;go_wp2;go_region_with (go_at_call 148;refine(Oz (A _ _) 6 p).mono ?_;rintro o I⟨rfl,C,u⟩;have j:=AfT D u;have J:=j.1 0;have K:=j.2 0;have M:=j.2 1;clear j;have v:=(As.of_below (pb:=O) (i _ _).drew).trans u;have B:=r.par v x)
  all_goals go_wp2_with(at_mapUpdate;refine AaD _ rfl _ _ _ rfl mb f e rfl B y d s rfl rfl m ?_;intro E k l)
  all_goals go_end0
  all_goals exact⟨rfl,_,C,v,k,l⟩
end
theorem Tryz.infoIntC:(prog.info? 3).map (fun a=>(a.zero,a.size,a.bytes))=some (some (Aa 0),1,8):=by kernel_rfl
def G0(w:World)(c d:Nat)(b:Af->Option Nat)(many:Nat):Prop:=
 ∃a:DataW Value,w.ownsMap prog 9 O0 c d a/\Maps.Tidy a/\Maps.size a=many/\
  ∀key:Af,key.size<=maxLen->Maps.has a (.string key.data.toList)=(b key).isSome/\a.atKey (.string key.data.toList) (.held (Aa 0))=.held (Aa ((b key).getD 0:Nat))
theorem G0.lt{w:World}{a d:Nat}{c:Af->Option Nat}{many:Nat}(h:G0 w a d c many):a<w.heap.size:=by obtain⟨e,b,_⟩:=h;exact b.lt
theorem G0.block{w Z:World}{a c:Nat}{b:Af->Option Nat}{many:Nat}(h:G0 w a c b many)(l:Z.heap[a]? =w.heap[a]?):G0 Z a c b many:=by obtain⟨d,⟨e,clock,f,i,j,k⟩,g⟩:=h;exact⟨d,⟨e,clock,by rw[l];exact f,i,j,k⟩,g⟩
structure Ck where
 words:List Int
 places:Nat
 E:CE
structure MK(base mb U X Y:Nat)(V:Option Nat)(w:World)(M:Ck)(v:Value):Prop where
 wd:w.cell? (Ac mb 0)=some v
 pl:w.cell? (Ac mb 1)=some (Aa M.places)
 gl:w.cell? (Ac mb 2)=some (.map (some U))
 lo:w.cell? (Ac mb 3)=some (.map V)
 rs:w.cell? (Ac mb 4)=some (.string M.E.res)
 frz: ∀o,w.frozen? (Ac mb o)=false
 own:w.ownsRow base 3 1 v M.words.length (M.words.map (.int .i64))
 gmap:Dh w U X M.E.g
 lmap: ∀b,V=some b->G0 w b Y M.E.l M.E.n
 lnil:V=none->(∀n,M.E.l n=none)/\M.E.n=0
 mlt:mb<base
 bas:base<=w.heap.size
 gne:U≠mb
 lne: ∀b,V=some b->b≠mb/\b≠U
def Mv(mb:Nat)(v I:Value)(w Z:World):Prop:=
 Fr (fun a=>a=mb\/v.ownBlock=some a) w Z/\(I.ownBlock=v.ownBlock\/ ∀b,I.ownBlock=some b->w.heap.size<=b)
section
variable{base mb U X Y:Nat}{V:Option Nat}{w Z:World}{M:Ck}{v I J:Value}
theorem Mv.refl(mb:Nat)(v:Value)(w:World):Mv mb v v w w:=⟨Fr.refl _ _,.inl rfl⟩
theorem Mv.of_below{mb:Nat}{v:Value}{w Z:World}(h:Ay w Z):Mv mb v v w Z:=⟨Fr.of_below h,.inl rfl⟩
theorem Mv.trans{mb:Nat}{v I J:Value}{j k c:World}(h:Mv mb v I j k)(e:Mv mb I J k c):Mv mb v J j c:=by
 refine⟨?_,?_⟩
 ·refine⟨e.1.os.trans h.1.os,e.1.tape.trans h.1.tape,e.1.output.trans h.1.output,AT h.1.size e.1.size,fun b d i=> ?_⟩;refine(e.1.block b (CF d h.1.size) ?_).trans (h.1.block b d i);rintro(f|f)
  ·exact i (.inl f)
  ·rcases h.2 with a|a
   ·exact i (.inr (a▸f))
   ·have:=a b f;omega
 ·rcases e.2 with g|g
  ·rcases h.2 with a|a
   ·exact .inl (g.trans a)
   ·exact .inr fun b d=>a b (g▸d)
  ·exact .inr fun b d=>AT h.1.size (g b d)
section
variable(h:MK base mb U X Y V w M v)
include h
theorem MK.row: ∀a,v.ownBlock=some a->base<=a/\a<w.heap.size/\a≠mb/\a≠U/\ ∀c,V=some c->a≠c:=by
 intro a e;obtain⟨l,m⟩:=h.own.lt a e
 have o: ∃Ad g,w.heap[a]? =some (.cells Ad g):=by
  rcases h.own.2 with⟨rfl,_⟩|⟨k,cap,Ad,rfl,_,p,_⟩
  ·simp[Value.ownBlock] at e
  ·have:k=a:=by simpa[Value.ownBlock] using e
   subst this;exact⟨_,_,p⟩
 obtain⟨Ad,g,f⟩:=o;refine⟨l,m,fun d=> ?_,fun d=> ?_,fun c n d=> ?_⟩
 ·have:=h.mlt;omega
 ·obtain⟨i,⟨j,clock,b,_⟩,_⟩:=h.gmap;rw[<-d,f] at b;cases b
 ·obtain⟨i,⟨j,clock,b,_⟩,_⟩:=h.lmap c n;rw[<-d,f] at b;cases b
theorem MK.lt:mb<w.heap.size:=De h.pl
theorem MK.below(a:Ay w Z):MK base mb U X Y V Z M v:=by
 have b: ∀o,Z.cell? (Ac mb o)=w.cell? (Ac mb o):=fun o=>a.cell (p:=Ac mb o) h.lt
 exact⟨by rw[b];exact h.wd,by rw[b];exact h.pl,by rw[b];exact h.gl,by rw[b];exact h.lo,by rw[b];exact h.rs,fun o=>by rw[a.frozen (p:=Ac mb o) h.lt];exact h.frz o,
  JR h.own a,h.gmap.block (a.block U h.gmap.lt),fun c d=>(h.lmap c d).block (a.block c (h.lmap c d).lt),h.lnil,h.mlt,AT h.bas a.size,h.gne,h.lne⟩
end
theorem MK.grow{c:World}(h:MK base mb U X Y V w M v){g:List Int}(f:w.grownBy c v.ownBlock)(l:c.ownsRow base 3 1 I (M.words.length+g.length) (M.words.map (.int .i64)++g.map (.int .i64)))
 (C:I.ownBlock=v.ownBlock\/ ∀d,I.ownBlock=some d->w.heap.size<=d):
 MK base mb U X Y V (c.setCell (Ac mb 0) I) {M with words:=M.words++g} I/\Mv mb v I w (c.setCell (Ac mb 0) I):=by
 have p:=h.row;have j: ∀a,a<w.heap.size->v.ownBlock≠some a->c.heap[a]? =w.heap[a]? :=fun a e D=>f.block a e (fun b=>D b.symm);have s:c.heap[mb]? =w.heap[mb]? :=j mb h.lt (fun b=>(p mb b).2.2.1 rfl);have r: ∀o,c.cell? (Ac mb o)=w.cell? (Ac mb o):=fun o=>World.cell?_of_block (w:=w) s;have i: ∀o,o≠0->(c.setCell (Ac mb 0) I).cell? (Ac mb o)=w.cell? (Ac mb o):=fun o l=>by rw[Bh _ _ _ _ (by intro b;cases b;exact l rfl),r]
 have k: ∀a,a≠mb->(c.setCell (Ac mb 0) I).heap[a]? =c.heap[a]? :=fun a e=>Below.heap_setCell _ _ _ _ e;have E: ∀d,I.ownBlock=some d->d≠mb:=fun d n b=>by have:=(l.lt d n).1;have:=h.mlt;omega
 have A:c.heap[U]? =w.heap[U]? :=j U h.gmap.lt (fun b=>(p U b).2.2.2.1 rfl);refine⟨⟨?_,?_,?_,?_,?_,?_,?_,?_,?_,h.lnil,h.mlt,?_,h.gne,h.lne⟩,?_,C⟩
 ·exact DW _ _ _ (by rw[r];exact h.wd)
 ·rw[i _ (by omega)];exact h.pl
 ·rw[i _ (by omega)];exact h.gl
 ·rw[i _ (by omega)];exact h.lo
 ·rw[i _ (by omega)];exact h.rs
 ·intro o;rw[Cu,World.frozen?_of_block (w:=w) s];exact h.frz o
 ·have x:(c.setCell (Ac mb 0) I).ownsRow base 3 1 I (M.words.length+g.length) (M.words.map (.int .i64)++g.map (.int .i64)):=by
   obtain⟨F,q⟩:=l;refine⟨F,?_⟩;rcases q with q|⟨m,cap,Ad,u,z,B,G⟩
   ·exact .inl q
   ·exact .inr ⟨m,cap,Ad,u,z,by rw[k m (E m (by rw[u];rfl))];exact B,G⟩
  simpa using x
 ·exact h.gmap.block (by rw[k U h.gne];exact A)
 ·intro a e;have y:c.heap[a]? =w.heap[a]? :=j a (h.lmap a e).lt (fun b=>(p a b).2.2.2.2 a e rfl);exact(h.lmap a e).block (by rw[k a (h.lne a e).1];exact y)
 ·have:=f.size;have:=h.bas;simp[World.setCell];omega
 ·refine⟨f.os,f.tape,f.output,by have:=f.size;simp[World.setCell];omega,fun d n t=> ?_⟩;rw[k d (fun b=>t (.inl b))];exact j d n (fun b=>t (.inr b))
theorem GR{w:World}{base:Nat}{a:TypeId}{size:Nat}{v:Value}{b:Nat}{e:List Value}(h:w.ownsRow base a size v b e): ∃d c,v=.slice d b c:=by
 rcases h.2 with⟨rfl,a⟩|⟨f,cap,Ad,rfl,_⟩
 ·exact⟨none,0,by rw[a]⟩
 ·exact⟨_,_,rfl⟩
theorem AdW(h:MK base mb U X Y V w M v){i o:Nat}{a:List Int}(t: ∀n j,(a.map (Value.int .i64))[n]? =some j->w.cell? (((Ac i 0):Addr).add n)=some j)(G:M.words.length+a.length<=1000000):
 Ah 101 #[Al mb,Ar i a.length o] w fun b Z=>b=.returned (Aa M.words.length)/\ ∃I,MK base mb U X Y V Z {M with words:=M.words++a} I/\Mv mb v I w Z:=by
 obtain⟨E,s,B,C,D⟩:=info_parts Tryz.infoIntC;have A:=h.wd;have r:=h.frz 0;have y:=h.own
 have J: ∀p f,(Builtin.len_ #[23] p #[v]).run prog f=.ok (Aa M.words.length) f:=by
  intro p f;rcases h.own.2 with⟨rfl,b⟩|⟨F,cap,Ad,rfl,_⟩
  ·rw[b];kernel_rfl
  ·kernel_rfl
 have q:=h.bas;have m:=h.row;have u:=h.lt;go_enter func101,ntmps101
 go_wp2_with(first
  |(at_builtin;refine Gw rfl _ _ 23 rfl base 3 E _ 1 8 underlying23 s B C D rfl (by decide) _ _ _ rfl y (Ac i 0) a.length o (a.map (.int .i64)) rfl (by simp) t ?h1 ?h63 ?hby ?hbase ?hh
    case h1=>intro j z;obtain⟨L,_,rfl⟩:=CD.1 z;rfl
    case h63=>unfold maxLen;omega
    case hby=>omega
    case hbase=>exact q
    intro I e l g x;obtain⟨c,d,rfl⟩:=GR l;have K:e.cell? (Ac mb 0)=some v:=g.cell A (fun b=>(m mb b.symm).2.2.1 rfl);have H:e.frozen? (Ac mb 0)=false:=(World.frozen?_of_block (w:=w) (g.block mb u (fun b=>(m mb b.symm).2.2.1 rfl))).trans r
    have k:Aside (MK base mb U X Y V (e.setCell (Ac mb 0) (.slice c (M.words.length+a.length) d)) {M with words:=M.words++a} (.slice c (M.words.length+a.length) d)/\Mv mb v (.slice c (M.words.length+a.length) d) w (e.setCell (Ac mb 0) (.slice c (M.words.length+a.length) d))):=h.grow g l x))
 go_ret;exact⟨rfl,_,k.out.1,k.out.2⟩
end
