/- The maker of code: an index becomes a place. The maker of co -/
import Derived.Test.YtklobognaldjpaaGreatCCm5
import Derived.Deep.RegionHeld3
set_option maxRecDepth 1000000
set_option maxHeartbeats 2000000
namespace Go.Proofs.YtklobognaldjpaaGreat
open Go.Proofs.Tryz
open Go.RowKit
section
variable{base O U X Y:Nat}{V:Option Nat}{w I:World}{M:Ck}{v J:Value}
def Er(E:CE)(p:Nat)(n:Af)(a:Ex):List Nat:=Ak E p a++[7,(E.g n).1,(E.g n).2]
section
variable(h:MK base O U X Y V w M v){n:Af}(Z:n.size<=maxLen)
include h Z
theorem VY:
 w.cell? (Ac O 2)=some (.map (some U))/\(Instr.lookup 170 (.map (some U)) (.string n) false).run prog w.drew=.ok (Ci (M.E.g n)) w.drew/\
  ∀a,(w.alloc a).drew.cell? (Ac O 2)=some (.map (some U))/\(Instr.lookup 170 (.map (some U)) (.string n) false).run prog (w.alloc a).drew=.ok (Ci (M.E.g n)) (w.alloc a).drew:=by
 have c: ∀b,Ay w (w.alloc b).drew:=fun b=>AP.drew;exact⟨h.gl,(h.below (Below.refl _ _).drew).gmap.lookupG Z,fun a=>⟨(h.below (c a)).gl,(h.below (c a)).gmap.lookupG Z⟩⟩
theorem VZ:
 w.cell? (Ac O 2)=some (.map (some U))/\(Instr.lookup 170 (.map (some U)) (.string n) false).run prog w=.ok (Ci (M.E.g n)) w:=⟨h.gl,h.gmap.lookupG Z⟩
end
theorem Vn{E:CE}{a:Ex}(ad:EX base O U X Y V E a){p:AW}{m:Value}{n:Af}(ae:Nat)(Z:n.size<=maxLen)(h:MK base O U X Y V w M v)(t:M.E=E)(ac:Ca p w m a)(D: ∀r,p r->r<base/\r≠O)(R:BX a)(H:M.words.length+(Er E M.words.length n a).length<=1000000):
 Ah 157 #[Al O,.agg #[.string n,Aa ae],m] w (BZ base O U X Y V (M.more (Au (Er E M.words.length n a))) v w):=by
 have al:=h.lt;have aj:=PN;have ak:=AcJ;have I:(Er E M.words.length n a).length=(Ak E M.words.length a).length+3:=by unfold Er;simp
 rw[I] at H;have y: ∀f,Ay w (w.alloc f):=fun f=>AP
 have F: ∀f,Ah 155 #[Al O,m] (w.alloc f) (BZ base O U X Y V (M.more (Au (Ak E M.words.length a))) v (w.alloc f)):=fun f=>
  ad p _ m M v (h.below (y f)) t (ac.keep ((Mv.of_below (mb:=O) (v:=v) (y f)).keepQ h D)) D R (by omega)
 have G:(M.more (Au (Ak E M.words.length a))).words.length+3<=1000000:=by rw[Bo,BF];omega
 have P: ∀b g,MK base O U X Y V b (M.more (Au (Ak E M.words.length a))) g->(Instr.lookup 170 (.map (some U)) (.string n) false).run prog b.drew=.ok (Ci (E.g n)) b.drew:=fun b g j=>by have:=(j.below (Below.refl _ _).drew).gmap.lookupG Z;rw[ER,t] at this;exact this
 have hF:(M.more (Au (Ak E M.words.length a))).more [7,((E.g n).1:Int),((E.g n).2:Int)]=M.more (Au (Er E M.words.length n a)):=by rw[CM];unfold Er;simp
 have z:=fun b g(j:MK base O U X Y V b (M.more (Au (Ak E M.words.length a))) g)=>Xc j [7,((E.g n).1:Int),((E.g n).2:Int)] 3 (by simpa using G);rw[hF] at z;have HS:=fun b g(j:MK base O U X Y V b (M.more (Au (Ak E M.words.length a))) g)=>VY j Z;have k:=fun b g(j:MK base O U X Y V b (M.more (Au (Er E M.words.length n a))) g)=>VZ j Z;rw[ER,t] at HS k;unfold Ci at P;generalize E.g n=i at*;clear hF G H I;generalize M.more (Au (Er E M.words.length n a))=ai at*;generalize M.more (Au (Ak E M.words.length a))=ah at*;unfold BZ at F;unfold Ci at HS k;go_enter func157,ntmps157;go_wp2_with(go_at_call 155;refine(F _).mono ?_;rintro e d⟨rfl,af,C,x⟩;have Q:=z _ _ C);have l:=Mv.new h x 0;have J:w.heap.size<d.heap.size:=De (v:=.string n) l;obtain⟨A,B,q⟩:=HS _ _ C;have aa:w.heap.size≠O:=by omega
 have ab:af.ownBlock≠some w.heap.size:=by
  intro e;rcases x.2 with s|s
  ·rw[s] at e;have:=(h.row _ e).2.1;omega
  ·have L:=s _ e;have N: ∀c,(w.alloc c).heap.size=w.heap.size+1:=fun c=>by simp
   rw[N] at L;omega
 have S:Hid (d.drew.cell? (Ac O 2)=some (.map (some U))/\d.drew.cell? (Ac w.heap.size 0)=some (.string n)/\(Instr.lookup 170 (.map (some U)) (.string n) false).run prog d.drew=.ok (.agg #[Aa (i.1:Nat),Aa (i.2:Nat)]) d.drew):=⟨A,l,B⟩;have T:Hid (∀c,(d.alloc c).drew.cell? (Ac O 2)=some (.map (some U))/\(d.alloc c).drew.cell? (Ac w.heap.size 0)=some (.string n)/\(Instr.lookup 170 (.map (some U)) (.string n) false).run prog (d.alloc c).drew=.ok (.agg #[Aa (i.1:Nat),Aa (i.2:Nat)]) (d.alloc c).drew):=fun c=>⟨(q c).1,by rw[show(d.alloc c).drew.cell? (Ac w.heap.size 0)=(d.alloc c).cell? (Ac w.heap.size 0) from rfl,EW _ _ _ J];exact l,(q c).2⟩;clear A B q;go_region_held3(fun b=>b.cell? (Ac O 2)=some (.map (some U))/\b.cell? (Ac w.heap.size 0)=some (.string n)/\(Instr.lookup 170 (.map (some U)) (.string n) false).run prog b=.ok (.agg #[Aa (i.1:Nat),Aa (i.2:Nat)]) b) (first|exact S.out|exact T.out _|exact W.out) ((go_at_call 101;refine Q.mono ?_;rintro e o⟨rfl,ag,u,K⟩;have W:Hid (o.cell? (Ac O 2)=some (.map (some U))/\o.cell? (Ac w.heap.size 0)=some (.string n)/\(Instr.lookup 170 (.map (some U)) (.string n) false).run prog o=.ok (.agg #[Aa (i.1:Nat),Aa (i.2:Nat)]) o):=⟨(k _ _ u).1,(K.1.cell J (by rintro(e|e);exact aa e;exact ab e) 0).trans l,(k _ _ u).2⟩))
 all_goals go_wp2
 all_goals go_end0
 all_goals exact⟨rfl,ag,u,(Mv.of_below (y _)).trans (x.trans K)⟩
end
theorem Vc(E:CE): ∀(b:List Ex)(p a:Nat)(c:Ex),b[a]? =some c->CQ E p (b.take (a+1))=CQ E p (b.take a)++Ak E (p+(CQ E p (b.take a)).length) c
 |[],p,a,c,h=>by simp at h
 |d::b,p,0,c,h=>by simp at h;subst h;rw[EN,Eo,Eo,CQ,CQ,CQ];simp
 |d::b,p,a+1,c,h=>by rw[EN,EN,CQ,CQ,Vc E b _ a c (by simpa using h),DO,AG,Gz]
theorem Vd(E:CE): ∀(a:List Ex)(p b:Nat),(CQ E p (a.take b)).length<=(CQ E p a).length
 |[],p,b=>by simp
 |c::a,p,0=>by rw[Eo,CQ];simp
 |c::a,p,b+1=>by rw[EN,CQ,CQ,AG,AG];have:=Vd E a (p+(Ak E p c).length) b;omega
section
variable{base O U X Y:Nat}{V:Option Nat}{w I:World}{M:Ck}{v J:Value}
def Hq(E:CE)(p:Nat)(n:Af)(args:List Ex):List Nat:=CQ E p args++[24,(E.g n).1,args.length]
theorem XO{E:CE}{args:List Ex}(a9: ∀b∈args,EX base O U X Y V E b){m:AW}{an:Value}{c:List Value}{n:Af}(P:Nat)(Z:n.size<=maxLen)(h:MK base O U X Y V w M v)(W:M.E=E)
 (H:B8 m w an c)(T:FI m w c args)(t: ∀i,m i->i<base/\i≠O)(bi:args.length<=602)(av:EO args)(ad:M.words.length+(Hq E M.words.length n args).length<=1000000):
 Ah 158 #[Al O,.agg #[.string n,Aa P],an] w (BZ base O U X Y V (M.more (Au (Hq E M.words.length n args))) v w):=by
 have bj:=h.lt;have bh:=PN;have L:=T.1;have af:(Hq E M.words.length n args).length=(CQ E M.words.length args).length+3:=by unfold Hq;simp
 rw[af] at ad;obtain⟨ba,bb,rfl⟩:=H.len;have z: ∀l,Ay w (w.alloc l):=fun l=>AP
 have s:Hid (∀(a:Nat)(u:a<c.length)(l:Obj)(wr:World)(f:Value),MK base O U X Y V wr (M.more (Au (CQ E M.words.length (args.take a)))) f->Mv O v f (w.alloc l) wr->
  Ah 155 #[Al O,c[a]] wr (fun b I=>b=.returned A6/\ ∃J,MK base O U X Y V I (M.more (Au (CQ E M.words.length (args.take (a+1))))) J/\Mv O f J wr I)):=by
  intro a u l wr f e k;have ag:a<args.length:=by omega
  have K:args[a]? =some args[a]:=Bb ag;have ak:(M.more (Au (CQ E M.words.length (args.take a)))).words.length=M.words.length+(CQ E M.words.length (args.take a)).length:=by rw[Bo,BF]
  have am:=Vc E args M.words.length a _ K;have a3:=Vd E args M.words.length (a+1);rw[am,AG] at a3;have:=a9 _ (D4 ag) m wr c[a] _ f e W ((T.2 a _ _ (Bb u) K).keep (((Mv.of_below (mb:=O) (v:=v) (z l)).trans k).keepQ h t)) t (TG av K) (by rw[ak];omega);rw[ak] at this;unfold BZ at this;rw[CM,<-E6,<-am] at this;exact this
 have HS:Hid (B8 m w (.slice ba c.length bb) c):=H;have ac:(M.more (Au (CQ E M.words.length args))).words.length+3<=1000000:=by rw[Bo,BF];omega
 have hF:(M.more (Au (CQ E M.words.length args))).more [24,((E.g n).1:Int),(args.length:Int)]=M.more (Au (Hq E M.words.length n args)):=by rw[CM];unfold Hq;simp
 have C:=fun g o(e:MK base O U X Y V g (M.more (Au (CQ E M.words.length args))) o)=>Xc e [24,((E.g n).1:Int),(args.length:Int)] 3 (by simpa using ac);rw[hF,<-L] at C;have be:Hid (c.length=args.length):=L;have bk:c.length<=602:=by omega
 have r:=fun g o(e:MK base O U X Y V g (M.more (Au (CQ E M.words.length args))) o)=>VY e Z;have q:=fun g o(e:MK base O U X Y V g (M.more (Au (Hq E M.words.length n args))) o)=>VZ e Z;rw[ER,W] at r q;unfold Ci at r q;generalize E.g n=j at*;clear hF ac ad af H;generalize M.more (Au (Hq E M.words.length n args))=bf at*;have aa:M.more (Au (CQ E M.words.length (args.take 0)))=M:=by rw[Eo,CQ];unfold Ck.more;simp
 have ao:Hid (∀a,¬a<c.length->args.take a=args):=fun a u=>I1 (by omega);clear L;generalize ab:(fun p=>M.more (Au (CQ E M.words.length p)))=Q at*;have B: ∀p,M.more (Au (CQ E M.words.length p))=Q p:=fun p=>by rw[<-ab]
 rw[B] at aa;simp only[B] at s C r;clear ab B;go_enter func158,ntmps158;go_wp2;go_loopw [7,10] (fun _ N wr=> ∃(a:Nat)(f:Value),N=Aa a/\a<=c.length/\MK base O U X Y V wr (Q (args.take a)) f/\Mv O v f (w.alloc (.cells #[.string n,Aa P] 210)) wr) (fun _ N _=>c.length -(intOf N).toNat)
 case atStart=>exact⟨0,v,rfl,B6 _,by rw[aa];exact h.below (z _),Mv.refl _ _ _⟩
 case round=>
  obtain⟨a,f,rfl,u,e,k⟩:=hrel;by_cases ai:a<c.length
  ·have ah:a<c.length:=ai;obtain⟨i,cap,a6,al,a0,ae⟩:=HS.out.at ah;injection a6 with a7 a8 y;subst a7 y;clear a8;have a2:=(Mv.of_below (mb:=O) (v:=v) (z (.cells #[.string n,Aa P] 210))).trans k
   have bg:wr.cell? (Ac i a)=some c[a]:=(a2.1.cell a0 (by
    rintro(b|b)
    ·exact(t i al).2 b
    ·have:=(h.row i b).1;have:=(t i al).1;omega) a).trans ae
   have az:=s.out a ah _ wr f e k;clear ae s HS;generalize c[a]=bl at*;go_wp2_with(go_at_call 155;refine az.mono ?_;rintro b bm⟨rfl,bd,au,a1⟩)
   go_roundw
   case rel=>exact⟨a+1,bd,by go_num,by omega,au,k.trans a1⟩
   case measure=>simp[intOf];omega
  ·rw[ao.out a ai] at e;have ar:=C _ _ e;have x:=Mv.new h k 0;have aj:w.heap.size<wr.heap.size:=De (v:=.string n) x;obtain⟨R,S,D⟩:=r _ _ e;have a4:w.heap.size≠O:=by omega
   have a5:f.ownBlock≠some w.heap.size:=by
    intro b;rcases k.2 with F|F
    ·rw[F] at b;have:=(h.row _ b).2.1;omega
    ·have ap:=F _ b;have aq: ∀d,(w.alloc d).heap.size=w.heap.size+1:=fun d=>by simp
     rw[aq] at ap;omega
   have aw:Hid (wr.drew.cell? (Ac O 2)=some (.map (some U))/\wr.drew.cell? (Ac w.heap.size 0)=some (.string n)/\(Instr.lookup 170 (.map (some U)) (.string n) false).run prog wr.drew=.ok (.agg #[Aa (j.1:Nat),Aa (j.2:Nat)]) wr.drew):=⟨R,x,S⟩;have ax:Hid (∀d,(wr.alloc d).drew.cell? (Ac O 2)=some (.map (some U))/\(wr.alloc d).drew.cell? (Ac w.heap.size 0)=some (.string n)/\(Instr.lookup 170 (.map (some U)) (.string n) false).run prog (wr.alloc d).drew=.ok (.agg #[Aa (j.1:Nat),Aa (j.2:Nat)]) (wr.alloc d).drew):=fun d=>⟨(D d).1,by rw[show(wr.alloc d).drew.cell? (Ac w.heap.size 0)=(wr.alloc d).cell? (Ac w.heap.size 0) from rfl,EW _ _ _ aj];exact x,(D d).2⟩;clear R S D s HS;go_wp2;go_region_held3(fun g=>g.cell? (Ac O 2)=some (.map (some U))/\g.cell? (Ac w.heap.size 0)=some (.string n)/\(Instr.lookup 170 (.map (some U)) (.string n) false).run prog g=.ok (.agg #[Aa (j.1:Nat),Aa (j.2:Nat)]) g) (first|exact aw.out|exact ax.out _|exact ay.out) ((go_at_call 101;refine ar.mono ?_;rintro b A⟨rfl,bc,G,y⟩;have ay:Hid (A.cell? (Ac O 2)=some (.map (some U))/\A.cell? (Ac w.heap.size 0)=some (.string n)/\(Instr.lookup 170 (.map (some U)) (.string n) false).run prog A=.ok (.agg #[Aa (j.1:Nat),Aa (j.2:Nat)]) A):=⟨(q _ _ G).1,(y.1.cell aj (by rintro(b|b);exact a4 b;exact a5 b) 0).trans x,(q _ _ G).2⟩))
   all_goals go_wp2
   all_goals go_end0
   all_goals exact⟨rfl,bc,G,(Mv.of_below (z _)).trans (k.trans y)⟩
end
@[go_sem] theorem Aj1 (w:World):(Instr.typeAssert .nilIface 251 283 true).run prog w=.ok (.tuple #[.agg #[Aa 0],.bool false]) w:=by kernel_rfl
@[go_sem] theorem Aj3 (v:Value) (w:World):(Instr.typeAssert (.iface 283 v) 251 283 true).run prog w=.ok (.tuple #[v,.bool true]) w:=by kernel_rfl
@[go_sem] theorem Aj2 (a:TypeId) (v:Value) (w:World) (h:a≠283):(Instr.typeAssert (.iface a v) 251 283 true).run prog w=.ok (.tuple #[.agg #[Aa 0],.bool false]) w:=FV h (by kernel_rfl) (by kernel_rfl)
section
variable{base O U X Y:Nat}{V:Option Nat}{w I:World}{M:Ck}{v J:Value}
theorem K3(h:MK base O U X Y V w M v)(b:Obj)(a:List Int)(c:TypeId)(e:M.words.length+a.length<=1000000):
 Ah 101 #[Al O,Ar (w.heap.size+1) a.length a.length] ((w.alloc b).alloc (.cells (a.map (Value.int .i64)).toArray c))
  fun d I=>d=.returned (Aa M.words.length)/\ ∃J,MK base O U X Y V I (M.more a) J/\Mv O v J w I:=by
 refine MY h (((Below.refl _ _).alloc (AA _) b).alloc (by simp) _) ?_ e;have:=Nh (w.alloc b) a c;rw[show(w.alloc b).heap.size=w.heap.size+1 from by simp] at this;exact this
theorem G9{c:AW}(h:MK base O U X Y V w M v)(d: ∀a,c a->a<base/\a≠O)(b:Obj):BR c w (w.alloc b):=
 (Mv.of_below (mb:=O) (v:=v) ((Below.refl _ _).alloc (AA _) b)).keepQ h d
theorem Ack{E:CE}(b:Nat):EX base O U X Y V E (.num b):=by
 intro j w p M v h l f n m a;cases f with
 |num _=>
 rw[Ak] at a⊢;have o:=h.lt;have d:=fun c=>K3 h c [2,(b:Int)] 3 (by simpa using a);go_enter func155,ntmps155;go_wp2_with(go_at_call 101;refine(d _).mono ?_;rintro k q⟨rfl,i,e,g⟩);go_end0;exact⟨rfl,i,e,g⟩
section
variable{E:CE}(n:Af)(p:Nat)
include n p
theorem Acm:EX base O U X Y V E (.var n p):=by
 intro l w s M v h e g o c i;cases g with
 |var _ _=>
 rw[BX] at c;rw[Ak] at i⊢;have r:=h.lt;have Z:n.size<=maxLen:=by have:=c.2;unfold maxLen;omega
 have q:(E.get n).length=2:=by unfold CE.get;split<;>rfl
 have d: ∀a,Ay w (w.alloc a):=fun a=>AP;have b:=fun a=>AcP (h.below (d a)) Z p (by omega);rw[e] at b;unfold BZ at b;go_enter func155,ntmps155;go_wp2_with(go_at_call 181;refine(b _).mono ?_;rintro m t⟨rfl,k,f,j⟩);go_end0;exact⟨rfl,k,f,(Mv.of_below (d _)).trans j⟩
theorem Aci{a:Ex}(A:EX base O U X Y V E a):EX base O U X Y V E (.elem n p a):=by
 intro F w K M v h r x g c j;cases x with
 |elem _ _ d=>
 rename_i L;have G:=d.cells;have I:=Cf d.one;rw[BX] at c;have H:=h.lt;have Z:n.size<=maxLen:=by have:=c.1.2;unfold maxLen;omega
 have l: ∀b,Ay w (w.alloc b):=fun b=>AP;have k:(Ak E M.words.length (.elem n p a)).length=(Er E M.words.length n a).length+1:=by rw[Ak];unfold Er;simp
 rw[k] at j;have hF:=fun b=>Vn A p Z (h.below (l b)) r (d.keep (G9 h g b)) g c.2 (by omega);have i:(M.more (Au (Er E M.words.length n a))).words.length+1<=1000000:=by rw[Bo,BF];omega
 have f:(M.more (Au (Er E M.words.length n a))).more [8]=M.more (Au (Ak E M.words.length (.elem n p a))):=by rw[CM,Ak];unfold Er;simp
 have e:=fun o m(s:MK base O U X Y V o (M.more (Au (Er E M.words.length n a))) m)=>EI s [8] 3 (by simpa using i);rw[f] at e;unfold BZ at hF;clear f i k j;generalize M.more (Au (Er E M.words.length n a))=C at*;generalize M.more (Au (Ak E M.words.length (.elem n p a)))=D at*;go_enter func155,ntmps155;go_wp2_with(first|(go_at_call 157;refine(hF _).mono ?_;rintro q N⟨rfl,J,t,y⟩)|(go_at_call 101;refine(e _ _ t).mono ?_;rintro q P⟨rfl,B,u,z⟩));go_end0;exact⟨rfl,B,u,(Mv.of_below (l _)).trans (y.trans z)⟩
theorem Ach{args:List Ex}(t: ∀f∈args,EX base O U X Y V E f):EX base O U X Y V E (.call n p args):=by
 intro B w H M v h o r c b e;cases r with
 |call _ _ d j g=>
 rename_i G I;rw[BX] at b;have C:=h.lt;have Z:n.size<=maxLen:=by have:=b.1.2;unfold maxLen;omega
 have k: ∀a,Ay w (w.alloc a):=fun a=>AP;have i:Ak E M.words.length (.call n p args)=Hq E M.words.length n args:=by rw[Ak];rfl
 rw[i] at e⊢;have hF:=fun a=>XO t p Z (h.below (k a)) o (d.keep (G9 h c a)) ⟨j,fun u y z l m=>(g u y z l m).keep (G9 h c a)⟩ c b.2.1 b.2.2 e;obtain⟨D,F,rfl⟩:=d.len;unfold BZ at hF;clear e i j g d;generalize M.more (Au (Hq E M.words.length n args))=A at*;go_enter func155,ntmps155;go_wp2_with(go_at_call 158;refine(hF _).mono ?_;rintro f J⟨rfl,x,q,s⟩);go_end0;exact⟨rfl,x,q,(Mv.of_below (k _)).trans s⟩
end
theorem Acl{E:CE}(op:Af){a:Ex}(z:EX base O U X Y V E a):EX base O U X Y V E (.un op a):=by
 intro o w K M v h q u i g k;cases u with
 |un _ d=>
 rename_i B;have G:=d.cells;have I:=Cf d.one;rw[BX] at g;have H:=h.lt;have n: ∀b,Ay w (w.alloc b):=fun b=>AP;have l:(Ak E M.words.length (.un op a)).length=(Ak E M.words.length a).length+1:=by rw[Ak];simp
 rw[l] at k;have hF:=fun b=>z o _ B M v (h.below (n b)) q (d.keep (G9 h i b)) i g (by omega);have j:(M.more (Au (Ak E M.words.length a))).words.length+1<=1000000:=by rw[Bo,BF];omega
 have f:(M.more (Au (Ak E M.words.length a))).more [((Jt op:Nat):Int)]=M.more (Au (Ak E M.words.length (.un op a))):=by rw[CM,Ak];simp
 have e:=fun c p(r:MK base O U X Y V c (M.more (Au (Ak E M.words.length a))) p)=>EI r [((Jt op:Nat):Int)] 3 (by simpa using j);rw[f] at e;have x:=fun c=>AiY op c;unfold BZ at hF;clear f j l k;generalize M.more (Au (Ak E M.words.length a))=C at*;generalize M.more (Au (Ak E M.words.length (.un op a)))=D at*;generalize Jt op=un at*;go_enter func155,ntmps155;go_wp2_with(first|(go_at_call 155;refine(hF _).mono ?_;rintro a L⟨rfl,J,s,m⟩;have F:=Mv.new h m 0)|(go_at_call 183;refine Aq (x _) ?_)|(go_at_call 101;refine(e _ _ s).mono ?_;rintro a N⟨rfl,A,t,y⟩));go_end0;exact⟨rfl,A,t,(Mv.of_below (n _)).trans (m.trans y)⟩
theorem Acj{E:CE}:EX base O U X Y V E .nil:=by intro b w g M v h c a e d f;cases a;rw[Ak];go_enter func155,ntmps155;go_wp2;go_end0;exact⟨rfl,v,by unfold Ck.more;simpa using h,Mv.refl _ _ _⟩
theorem Mv.new3{b c d:Value}{e:TypeId}(h:MK base O U X Y V w M v)(a:Mv O v J (w.alloc (.cells #[b,c,d] e)) I):
 I.cell? (Ac w.heap.size 0)=some b/\I.cell? (Ac w.heap.size 1)=some c/\I.cell? (Ac w.heap.size 2)=some d:=
 ⟨Mv.new h a 0,Mv.new h a 1,Mv.new h a 2⟩
theorem Abl{E:CE}{a b:Ex}(aq:EX base O U X Y V E a)(N:EX base O U X Y V E b){n:AW}{P D:Value}(op:Af)(h:MK base O U X Y V w M v)(B:M.E=E)(I:Ca n w P a)(K:Ca n w D b)(s: ∀x,n x->x<base/\x≠O)(al:BX a)(G:BX b)
 (H:M.words.length+(Ak E M.words.length (.bin op a b)).length<=1000000):
 Ah 182 #[Al O,.agg #[.string op,P,D]] w (BZ base O U X Y V (M.more (Au (Ak E M.words.length (.bin op a b)))) v w):=by
 have av:=I.cells;have aw:=K.cells;have az:=Cf I.one;have a0:=Cf K.one;have ay:=h.lt;have A: ∀d,Ay w (w.alloc d):=fun d=>AP;have i:(M.more (Au (Ak E M.words.length a))).words.length=M.words.length+(Ak E M.words.length a).length:=by rw[Bo,BF]
 have L: ∀d c e,Mv O v e (w.alloc d) c->Ca n c D b:=fun d c e m=>K.keep (((Mv.of_below (mb:=O) (v:=v) (A d)).trans m).keepQ h s)
 have J:(Ak E M.words.length a).length<=(Ak E M.words.length (.bin op a b)).length:=by
  rw[Ak];split
  ·simp only[AG];omega
  ·split<;>simp only[AG]<;>omega
 have u:=fun d=>aq n (w.alloc d) P M v (h.below (A d)) B (I.keep (G9 h s d)) s al (by omega);by_cases k:BE op [97,110,100]=true
 ·have j:(M.more (Au (Ak E M.words.length a))).more (Au (I4 E (M.words.length+(Ak E M.words.length a).length) b))=M.more (Au (Ak E M.words.length (.bin op a b))):=by rw[CM,Ak,Ag k];unfold I4;simp
  have z:(Ak E M.words.length a).length+(I4 E (M.words.length+(Ak E M.words.length a).length) b).length<=(Ak E M.words.length (.bin op a b)).length:=by rw[Ak,Ag k];unfold I4;simp
  have f:=fun d c e(l:MK base O U X Y V c (M.more (Au (Ak E M.words.length a))) e)(m:Mv O v e (w.alloc d) c)=>Aa2 N l B (L d c e m) s G (by rw[i];omega);rw[i] at f;rw[j] at f;clear j z J i H;have ad:(op.toList==[97,110,100])=true:=k;unfold BZ at u f;generalize M.more (Au (Ak E M.words.length a))=R at*;generalize M.more (Au (Ak E M.words.length (.bin op a b)))=S at*;go_enter func182,ntmps182;go_wp2_with(first|(go_at_call 155;refine(u _).mono ?_;rintro p ag⟨rfl,af,r,g⟩;obtain⟨aa,ab,ac⟩:=Mv.new3 h g)|(go_at_call 199;refine(f _ _ _ r g).mono ?_;rintro p ah⟨rfl,C,y,t⟩));all_goals go_end0
  all_goals exact⟨rfl,C,y,(Mv.of_below (A _)).trans (g.trans t)⟩
 ·have W:BE op [97,110,100]=false:=by simpa using k
  by_cases q:BE op [111,114]=true
  ·have j:(M.more (Au (Ak E M.words.length a))).more (Au (Jk E (M.words.length+(Ak E M.words.length a).length) b))=M.more (Au (Ak E M.words.length (.bin op a b))):=by rw[CM,Ak,Ae k,Ag q];unfold Jk;simp
   have z:(Ak E M.words.length a).length+(Jk E (M.words.length+(Ak E M.words.length a).length) b).length<=(Ak E M.words.length (.bin op a b)).length:=by rw[Ak,Ae k,Ag q];unfold Jk;simp
   have f:=fun d c e(l:MK base O U X Y V c (M.more (Au (Ak E M.words.length a))) e)(m:Mv O v e (w.alloc d) c)=>AfL N l B (L d c e m) s G (by rw[i];omega);rw[i] at f;rw[j] at f;clear j z J i H;have ao:(op.toList==[97,110,100])=false:=W;have ad:(op.toList==[111,114])=true:=q;unfold BZ at u f;generalize M.more (Au (Ak E M.words.length a))=R at*;generalize M.more (Au (Ak E M.words.length (.bin op a b)))=S at*;go_enter func182,ntmps182;go_wp2_with(first|(go_at_call 155;refine(u _).mono ?_;rintro p ag⟨rfl,af,r,g⟩;obtain⟨aa,ab,ac⟩:=Mv.new3 h g)|(go_at_call 200;refine(f _ _ _ r g).mono ?_;rintro p ah⟨rfl,C,y,t⟩));all_goals go_end0
   all_goals exact⟨rfl,C,y,(Mv.of_below (A _)).trans (g.trans t)⟩
  ·have aj:BE op [111,114]=false:=by simpa using q
   have j:((M.more (Au (Ak E M.words.length a))).more (Au (Ak E (M.words.length+(Ak E M.words.length a).length) b))).more [((Ij op:Nat):Int)]=M.more (Au (Ak E M.words.length (.bin op a b))):=by rw[CM,CM,Ak,Ae k,Ae q];simp
   have z:(Ak E M.words.length a).length+(Ak E (M.words.length+(Ak E M.words.length a).length) b).length+1<=(Ak E M.words.length (.bin op a b)).length:=by rw[Ak,Ae k,Ae q];simp;omega
   have f:=fun d c e(l:MK base O U X Y V c (M.more (Au (Ak E M.words.length a))) e)(m:Mv O v e (w.alloc d) c)=>N n c D _ e l B (L d c e m) s G (by rw[i];omega);rw[i] at f;have Z:((M.more (Au (Ak E M.words.length a))).more (Au (Ak E (M.words.length+(Ak E M.words.length a).length) b))).words.length+1<=1000000:=by rw[Bo,i,BF];omega
   have Q:=fun c e(l:MK base O U X Y V c ((M.more (Au (Ak E M.words.length a))).more (Au (Ak E (M.words.length+(Ak E M.words.length a).length) b))) e)=>EI l [((Ij op:Nat):Int)] 3 (by simpa using Z);rw[j] at Q;have am:=fun c=>AfK op c;have an: ∀d ae c e F T,Mv O v e (w.alloc (.cells d ae)) c->Mv O e T c F-> ∀o,F.cell? (Ac w.heap.size o)=d[o]? :=fun d ae c e F T ai x o=>Mv.new h (ai.trans x) o;clear j z J i H Z;have ao:(op.toList==[97,110,100])=false:=W;have ad:(op.toList==[111,114])=false:=aj;unfold BZ at u f;generalize(M.more (Au (Ak E M.words.length a))).more (Au (Ak E (M.words.length+(Ak E M.words.length a).length) b))=au at*;generalize M.more (Au (Ak E M.words.length a))=R at*;generalize M.more (Au (Ak E M.words.length (.bin op a b)))=S at*;generalize Ij op=on at*;go_enter func182,ntmps182;go_wp2_with(first|(go_at_call 155;have _q:=r;refine(f _ _ _ r g).mono ?_;rintro p ah⟨rfl,C,y,t⟩;have ax:=an _ _ _ _ _ _ g t 0)|(go_at_call 155;refine(u _).mono ?_;rintro p ag⟨rfl,af,r,g⟩;obtain⟨aa,ab,ac⟩:=Mv.new3 h g)|(go_at_call 201;refine Aq (am _) ?_)|(go_at_call 101;refine(Q _ _ y).mono ?_;rintro p a1⟨rfl,ar,ak,ap⟩));all_goals go_end0
   all_goals exact⟨rfl,ar,ak,(Mv.of_below (A _)).trans (g.trans (t.trans ap))⟩
theorem Acg{E:CE}(op:Af){f g:Ex}(o:EX base O U X Y V E f)(p:EX base O U X Y V E g):EX base O U X Y V E (.bin op f g):=by
 intro s w B M v h k m c b i;cases m with
 |bin _ d e=>
 rename_i C D;have u:=d.cells;have x:=e.cells;have z:=Cf d.one;have A:=Cf e.one;rw[BX] at b;have y:=h.lt;have j: ∀a,Ay w (w.alloc a):=fun a=>AP;have hF:=fun a=>Abl o p op (h.below (j a)) k (d.keep (G9 h c a)) (e.keep (G9 h c a)) c b.1 b.2 i;unfold BZ at hF;clear i;generalize M.more (Au (Ak E M.words.length (.bin op f g)))=r at*;go_enter func155,ntmps155;go_wp2_with(go_at_call 182;refine(hF _).mono ?_;rintro t F⟨rfl,q,l,n⟩);go_end0;exact⟨rfl,q,l,(Mv.of_below (j _)).trans n⟩
mutual
theorem IB{E:CE}: ∀a,EX base O U X Y V E a
 |.nil=>Acj
 |.num j=>Ack j
 |.var n p=>Acm n p
 |.elem n p g=>Aci n p (IB g)
 |.call n p args=>Ach n p (Si args)
 |.bin op b i=>Acg op (IB b) (IB i)
 |.un op a=>Acl op (IB a)
theorem Si{E:CE}: ∀(b:List Ex),∀a∈b,EX base O U X Y V E a
 |[]=>fun a c=>by simp at c
 |d::b=>fun a c=>by
  have e:=IB (E:=E) d;have f:=Si (E:=E) b;rcases C0.1 c with h|h
  ·rw[h];exact e
  ·exact f a h
end
end
