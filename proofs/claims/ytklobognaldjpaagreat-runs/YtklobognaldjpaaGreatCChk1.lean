/- The maker of code: Program. What is declared: all of it. A w -/
import Derived.Test.YtklobognaldjpaaGreatCCm18
import Derived.Test.YtklobognaldjpaaGreatCLk13
import Derived.Deep.AppendLies
import Derived.Laws.OwnMore
set_option maxRecDepth 1000000
set_option maxHeartbeats 4000000
namespace Go.Proofs.YtklobognaldjpaaGreat
open Go.Proofs.Tryz
open Go.RowKit
theorem AeY(w:World)(b c a:Array Value)(d e s:TypeId)(f:a= #[Aw,Aa 0,.map (some (w.heap.size+2)),.map none,.string ⟨#[]⟩]):
 MK (w.heap.size+4) (w.heap.size+3) (w.heap.size+2) 0 0 none ((((w.alloc (.cells b d)).alloc (.cells c e)).alloc (.map #[] 0)).alloc (.cells a s)) (BN Ig) Aw:=by
 have l:((w.alloc (.cells b d)).alloc (.cells c e)).heap.size=w.heap.size+2:=by simp
 have h:(((w.alloc (.cells b d)).alloc (.cells c e)).alloc (.map #[] 0)).heap.size=w.heap.size+3:=by simp
 have g: ∀o,((((w.alloc (.cells b d)).alloc (.cells c e)).alloc (.map #[] 0)).alloc (.cells a s)).cell? (Ac (w.heap.size+3) o)=a[o]? :=fun o=>by rw[<-h];exact Cl _ a s o
 have m:Dh ((((w.alloc (.cells b d)).alloc (.cells c e)).alloc (.map #[] 0)).alloc (.cells a s)) (w.heap.size+2) 0 (fun _=>(0,0)):=by have j:=Tr ((w.alloc (.cells b d)).alloc (.cells c e));rw[l] at j;exact j.block (Below.heap_alloc _ _ _ (by rw[h];omega))
 refine⟨?_,?_,?_,?_,?_,?_,?_,m,fun k i=>(by cases i),fun _=>⟨fun _=>rfl,rfl⟩,by omega,by simp,by omega,fun k i=>(by cases i)⟩
 ·rw[g,f];rfl
 ·rw[g,f];rfl
 ·rw[g,f];rfl
 ·rw[g,f];rfl
 ·rw[g,f];rfl
 ·intro o;rw[<-h];exact Gc _ a s o
 ·exact World.ownsRow_nil _ _ _ _
theorem AdX(b:Option Addr)(n c:Nat)(d:TypeId)(a:World):(Builtin.len_ #[23] d #[.slice b n c]).run prog a=.ok (Aa (n:Nat)) a:=by kernel_rfl
def Rd(p:Pr)(w:World)(d:Ending)(U:World):Prop:=
 Ay w U/\ ∃a wc,d=.returned (.agg #[Ar a (BI p).1.length wc,Aa ((BI p).2.1:Nat),Aa ((BI p).2.2:Nat)])/\w.heap.size<=a/\a<U.heap.size/\
  ∀b c,(BI p).1[b]? =some c->U.cell? (Ac a b)=some (Aa (c:Nat))
theorem AbB{p:Pr}{a:Ck}{k base b h c:Nat}{w d:World}(i:a.words=(BI p).1.map Int.ofNat)(n:a.places=(BI p).2.2)(q:(BI p).2.1=k)(t:d.ownsRow base 3 1 (Ar b a.words.length h) a.words.length (a.words.map (.int .i64)))
 (z:base<=b)(u:b<d.heap.size)(B:c<base)(g:w.heap.size<c)(r:Ay w d){l v x:Value}:
 Rd p w (.returned (.agg #[Ar b a.words.length h,Aa (k:Nat),Aa (a.places:Nat)])) (((d.drew.setCell (Ac c 0) l).setCell (Ac c 1) v).setCell (Ac c 2) x):=by
 have s:a.words.length=(BI p).1.length:=by rw[i,BF]
 refine⟨((r.drew.setCell (Rx g) _).setCell (Rx g) _).setCell (Rx g) _,b,h,?_,by omega,by simpa[World.setCell] using u,fun e l j=> ?_⟩
 ·rw[s,<-q,n]
 ·have A:e<(BI p).1.length:=(BH.1 j).1;have f: ∀o,((Ac c o):Addr)≠(Ac b e):=fun o m=>by injection m with y;omega
  rw[Bh _ _ _ _ (f 2),Bh _ _ _ _ (f 1),Bh _ _ _ _ (f 0)];show d.cell? (Ac b e)=_;rw[t.cellAt e (by omega),i,Mn,CC,j];rfl
section
variable{w U:World}{Q:AW}
theorem AbC{p:Pr}{T:List Az}{a8 a6:Value}{j bs:List Value}(Y:B8 Q w a8 j)(S:CY Q w j p.globals)(l:B8 Q w a6 bs)(E:Di Q w bs p.body)(W:Mu T p)(bl:T.length<=601)
 (ar: ∀R∈p.globals,NL R)(az: ∀d,d<=p.globals.length->(A3 p.globals d).places<=1000000)(bm:(BI p).1.length<=1000000):
 Ah 72 #[.agg #[a8,a6]] w (Rd p w):=by
 have au:=Y.weak (Q':=fun a=>a<w.heap.size) (fun a _ s=>s);have am:=S.weak (Q':=fun a=>a<w.heap.size) (fun a _ s=>s);have ao:=l.weak (Q':=fun a=>a<w.heap.size) (fun a _ s=>s);have al:=E.weak (Q':=fun a=>a<w.heap.size) (fun a _ s=>s);obtain⟨g,gc,rfl⟩:=Y.len;obtain⟨e,f,rfl⟩:=l.len;have Z:=S.1;have bn:=W.len;have D:Hid (B8 (fun a=>a<w.heap.size) w (.slice g j.length gc) j):=au;have M:Hid (CY (fun a=>a<w.heap.size) w j p.globals):=am;have J:Hid (B8 (fun a=>a<w.heap.size) w (.slice e bs.length f) bs):=ao;have I:Hid (Di (fun a=>a<w.heap.size) w bs p.body):=al;have x:Hid (Mu T p):=W;have K:Hid (∀R∈p.globals,NL R):=ar;have N:Hid (∀d,d<=p.globals.length->(A3 p.globals d).places<=1000000):=az;have X:(BI p).1=(A3 p.globals p.globals.length).words++Bt (Fc (A3 p.globals p.globals.length)) (A3 p.globals p.globals.length).words.length p.body++[0]:=by unfold BI A3;rw[E7]
 have V:(BI p).2.1=(A3 p.globals p.globals.length).words.length:=by unfold BI A3;rw[E7]
 have an:(BI p).2.2=(A3 p.globals p.globals.length).places:=by unfold BI A3;rw[E7]
 have bq:(BI p).1.length=(A3 p.globals p.globals.length).words.length+(Bt (Fc (A3 p.globals p.globals.length)) (A3 p.globals p.globals.length).words.length p.body).length+1:=by rw[X,AG,AG];rfl
 have O:Hid (∀d,d<=p.globals.length->(A3 p.globals d).words.length<=1000000):=fun d ax=>by
  obtain⟨b6,bz⟩:=PA (G:=p.globals) (i:=d) p.globals.length ax (AA _);have:(A3 p.globals p.globals.length).words.length=(A3 p.globals d).words.length+b6.length:=by rw[bz];simp
  omega
 have br:=fun r=>run_makeMap (P:=prog) 170 r;clear Y S l E au am ao al W ar az;rw[Z];rw[Z] at D;go_enter func72,ntmps72;go_wp2;have y:=AeY w #[.slice g p.globals.length gc,.slice e bs.length f] #[Aw,Aa 0,Aa 0] #[Aw,Aa 0,.map (some (w.heap.size+1+1)),.map none,.string ⟨#[]⟩] 117 134 173 rfl;generalize v:((((w.alloc (.cells #[.slice g p.globals.length gc,.slice e bs.length f] 117)).alloc (.cells #[Aw,Aa 0,Aa 0] 134)).alloc (.map #[] 0)).alloc (.cells #[Aw,Aa 0,.map (some (w.heap.size+1+1)),.map none,.string ⟨#[]⟩] 173))=b at*;have q:Ay w b:=by rw[<-v];exact((AP.alloc (by simp) _).alloc (by simp<;>omega) _).alloc (by simp<;>omega) _
 have a3:b.heap.size=w.heap.size+4:=by rw[<-v];simp
 have aa: ∀o,b.cell? (Ac w.heap.size o)= #[Value.slice g p.globals.length gc,.slice e bs.length f][o]? :=fun o=>by rw[<-v,EW _ _ _ (by simp<;>omega),EW _ _ _ (by simp<;>omega),EW _ _ _ (by simp)];exact Cl w _ _ o
 have ab: ∀o,b.cell? (Ac (w.heap.size+1) o)= #[Value.slice none 0 0,Aa 0,Aa 0][o]? :=fun o=>by rw[<-v,EW _ _ _ (by simp<;>omega),EW _ _ _ (by simp)];have:=Cl (w.alloc (.cells #[.slice g p.globals.length gc,.slice e bs.length f] 117)) #[Value.slice none 0 0,Aa 0,Aa 0] 134 o;rw[show(w.alloc (.cells #[.slice g p.globals.length gc,.slice e bs.length f] 117)).heap.size=w.heap.size+1 from by simp] at this;exact this
 have n: ∀o,b.frozen? (Ac (w.heap.size+1) o)=false:=fun o=>by
  have bh:(w.alloc (.cells #[.slice g p.globals.length gc,.slice e bs.length f] 117)).heap.size=w.heap.size+1:=by simp
  have E:=((Below.refl ((w.alloc (.cells #[.slice g p.globals.length gc,.slice e bs.length f] 117)).alloc (.cells #[Aw,Aa 0,Aa 0] 134)).heap.size ((w.alloc (.cells #[.slice g p.globals.length gc,.slice e bs.length f] 117)).alloc (.cells #[Aw,Aa 0,Aa 0] 134))).alloc (AA _) (.map #[] 0)).alloc (by simp) (.cells #[Aw,Aa 0,.map (some (w.heap.size+1+1)),.map none,.string ⟨#[]⟩] 173);rw[<-v,E.frozen (p:=Ac (w.heap.size+1) o) (by simp)];have:=Gc (w.alloc (.cells #[.slice g p.globals.length gc,.slice e bs.length f] 117)) #[Value.slice none 0 0,Aa 0,Aa 0] 134 o;rw[bh] at this;exact this
 clear v br;rw[show w.heap.size+2=w.heap.size+1+1 from rfl,show w.heap.size+3=w.heap.size+1+1+1 from rfl] at y;have ag:Hid (w.heap.size+4=b.heap.size):=a3.symm;have cf:w.heap.size+1+1+1<b.heap.size:=by omega
 have cg:w.heap.size+1<w.heap.size+1+1:=by omega
 have ch:w.heap.size+1+1<w.heap.size+1+1+1:=by omega
 rw[ag.out] at y;clear a3 ag;generalize w.heap.size+1+1+1=i at*;generalize w.heap.size+1+1=h at*;have bw:w.heap.size<w.heap.size+1:=by omega
 generalize w.heap.size+1=B at*;have HQ:Hid (∀a,a<w.heap.size->a<b.heap.size/\a≠i/\a≠h):=fun a l=>by omega
 have P: ∀{wr:World},GF b.heap.size i h b wr->BR (fun a=>a<w.heap.size) w wr:=fun{wr} hF=>⟨AT q.size hF.size,fun a l ay=>(hF.block a (CF ay q.size) (by omega)).trans (q.block a ay)⟩;have a1: ∀{wr:World},GF b.heap.size i h b wr-> ∀o,wr.cell? (Ac w.heap.size o)= #[Value.slice g p.globals.length gc,.slice e bs.length f][o]? :=fun{wr} hF o=>by rw[hF.cell (by omega) (by omega)];exact aa o
 have a2: ∀{wr:World},GF b.heap.size i h b wr->(∀o,wr.cell? (Ac B o)= #[Value.slice none 0 0,Aa 0,Aa 0][o]?)/\(∀o,wr.frozen? (Ac B o)=false):=fun{wr} hF=>⟨fun o=>by rw[hF.cell (by omega) (by omega)];exact ab o,fun o=>by rw[World.frozen?_of_block (w:=b) (hF.block B (by omega) (by omega))];exact n o⟩;go_loopw [5,13] (fun _ af wr=> ∃(c H:Nat)(C:Value),af=Aa c/\c<=p.globals.length/\MK b.heap.size i h c H none wr (BN (A3 p.globals c)) C/\GF b.heap.size i h b wr) (fun _ af _=>p.globals.length -(intOf af).toNat)
 case atStart=>exact⟨0,0,_,rfl,B6 _,y,Fr.refl _ _⟩
 case round=>
  obtain⟨c,H,C,rfl,bo,k,hF⟩:=hrel;by_cases m:c<p.globals.length
  ·have aw:c<j.length:=by omega
   have ah:Hid (B8 (fun a=>a<w.heap.size) w (.slice g j.length gc) j):=by rw[Z];exact D
   obtain⟨a,cap,ac,cj,ap,aq⟩:=ah.out.at aw;injection ac with b0 ad ae;subst b0 ae;clear ad ah;have ce:wr.cell? (Ac a c)=some j[c]:=by rw[hF.cell (CF ap q.size) (by omega),World.cell?_of_block (w:=w) (q.block a ap)];exact aq
   have av:p.globals[c]? =some p.globals[c]:=Bb m;have ak:p.globals.getD c Cm=p.globals[c]:=by simp[List.getD,m]
   have z:=LA (G:=p.globals) m;rw[ak] at z;have t:=AeW k ((M.out.2 c _ _ (Bb aw) av).keep (P hF)) HQ.out (x.out.globals _ (D4 m)) bl (K.out _ (D4 m)) (by unfold maxLen;omega) (by rw[<-z];exact N.out (c+1) m) (by rw[<-z];exact O.out (c+1) m);rw[<-z] at t;unfold Mh at t;clear aq av ak z y D M J I x K N O aa ab n;generalize j[c]=cr at*;go_wp2_with(go_at_call 99;refine t.mono ?_;rintro aj cs⟨rfl,b7,b4,bk,bj⟩)
   go_roundw
   case rel=>exact⟨c+1,b4,b7,by go_num,by omega,bk,hF.trans bj⟩
   case measure=>simp[intOf];omega
  ·have bi:c=p.globals.length:=by omega
   subst bi;have A:(BN (A3 p.globals p.globals.length)).words.length=(A3 p.globals p.globals.length).words.length:=by unfold BN;simp
   have bp: ∀a4 r,(Builtin.len_ #[23] a4 #[C]).run prog r=.ok (Aa (A3 p.globals p.globals.length).words.length) r:=by intro a4 r;obtain⟨a5,a7,ac⟩:=GR k.own;rw[ac,<-A];exact AdX _ _ _ _ _
   have cl:=k.wd;have ci:=a1 hF 1;have t:=TX (E:=Fc (A3 p.globals p.globals.length)) p.body (fun a=>a<w.heap.size) wr (.slice e bs.length f) bs _ C k rfl (J.out.keep (P hF)) (I.out.keep (P hF)) (fun a l=>⟨(HQ.out a l).1,(HQ.out a l).2.1⟩) x.out.body.1 x.out.body.2 (by rw[A];omega);rw[A] at t;have bf:=fun r bg(k:MK b.heap.size i h p.globals.length H none r ((BN (A3 p.globals p.globals.length)).more (Au (Bt (Fc (A3 p.globals p.globals.length)) (A3 p.globals p.globals.length).words.length p.body))) bg)=>EI k [0] 3 (by rw[Bo,A,BF];simp;omega)
   have L:Hid ((((BN (A3 p.globals p.globals.length)).more (Au (Bt (Fc (A3 p.globals p.globals.length)) (A3 p.globals p.globals.length).words.length p.body))).more [0]).words=(BI p).1.map Int.ofNat/\(((BN (A3 p.globals p.globals.length)).more (Au (Bt (Fc (A3 p.globals p.globals.length)) (A3 p.globals p.globals.length).words.length p.body))).more [0]).places=(BI p).2.2):=by
    refine⟨?_,?_⟩
    ·rw[CM,X];unfold Ck.more BN;simp
    ·rw[an];rfl
   have ba:Hid (GF b.heap.size i h b wr):=hF;have bb:Hid (MK b.heap.size i h p.globals.length H none wr (BN (A3 p.globals p.globals.length)) C):=k;have a0:(BI p).1.length≠0:=by omega
   have bd:Hid ((BI p).1.length≠0):=a0;rw[<-V] at bp;have ck:(BI p).2.1<=1000000:=by rw[V];omega
   unfold BZ at t;have be:Hid (∀{wr:World},GF b.heap.size i h b wr->(∀o,wr.cell? (Ac B o)= #[Value.slice none 0 0,Aa 0,Aa 0][o]?)/\(∀o,wr.frozen? (Ac B o)=false)):= @a2;clear k hF y D M J I x K N O aa ab n a1 a2 m bo X bq V an A a0 bm bn;generalize((BN (A3 p.globals p.globals.length)).more (Au (Bt (Fc (A3 p.globals p.globals.length)) (A3 p.globals p.globals.length).words.length p.body))).more [0]=ai at*;generalize(BN (A3 p.globals p.globals.length)).more (Au (Bt (Fc (A3 p.globals p.globals.length)) (A3 p.globals p.globals.length).words.length p.body))=cb at*;generalize BN (A3 p.globals p.globals.length)=ca at*;generalize bx:(BI p).2.1=b5 at*;go_wp2_with(first|(go_at_call 101;have _q:=U;refine(bf _ _ U).mono ?_;rintro aj b9⟨rfl,cq,F,ae⟩;have u:Hid (GF b.heap.size i h b b9):=a9.out.trans (GF.of_mv U ae);have cc:=F.wd;have cd:=F.pl;obtain⟨a5,a7,b2,b1,b3⟩:=F.own.form (by rw[L.out.1,BF];have:=bd.out;omega);have bc:Hid _:=F.own;subst b2;obtain⟨G,n⟩:=be.out u.out;have bt:=G 0;have bu:=G 1;have bv:=G 2;have cm:=n 0;have cn:=n 1;have co:=n 2;clear G n)|(go_at_call 100;refine t.mono ?_;rintro aj b8⟨rfl,cp,U,ad⟩;have a9:Hid (GF b.heap.size i h b b8):=ba.out.trans (GF.of_mv bb.out ad)));go_region;all_goals go_wp2
   all_goals refine bodyPost_ret (v:=.agg #[Ar a5 ai.words.length a7,Aa (b5:Nat),Aa (ai.places:Nat)]) (by simp[results,results72,go_sem,bt,bu,bv]) rfl ?_
   all_goals go_light
   all_goals refine AbB L.out.1 L.out.2 bx bc.out b1 b3 (by omega) bw (q.trans ⟨u.out.os,u.out.tape,u.out.output,u.out.size,fun d ax=>u.out.block d (by have:=q.size;omega) (by have:=q.size;omega)⟩)
variable{V O cap:Nat}{T:List Az}{s:PS}
theorem Xh(a:AR T): ∀(n:Nat)(l:List Gl)(s:PS),An T s->(Bw T n l s).1.length+s.next<=l.length+(Bw T n l s).2.next
 |0,l,s,_=>AA _
 |n+1,l,s,d=>by
  rw[Bw];split
  ·rename_i c;have e:=AD a d c Ai;have b:=K5 a (Ab s) e;have h:=Xh a n (l++[(AE T (Ab s)).1]) (AE T (Ab s)).2 b.1;have f:(Ab s).next=s.next+1:=rfl
   have g:(l++[(AE T (Ab s)).1]).length=l.length+1:=by simp
   have:=b.2;omega
  ·exact AA _
theorem AdY(a:AR T)(s:PS)(d:An T s):(BP T s).1.length+s.next<=1+(BP T s).2.next:=by
 have b:=K5 a s d;have f:=Xh a T.length [(AE T s).1] (AE T s).2 b.1;have c:=(Tw a T.length [(AE T s).1] (AE T s).2 b.1).1;have g:=(Ch a (f:=AQ) Ai c).2;have e:[(AE T s).1].length=1:=rfl;have:=b.2;show(Bw T T.length [(AE T s).1] (AE T s).2).1.length+s.next<=1+(Am T AQ (Bw T T.length [(AE T s).1] (AE T s).2).2).next
 omega
section
variable{n:Nat}{l:List Gl}
theorem Ac0(a:Aj T CJ s=true):BC T (n+1) l s=BC T n (l++(BP T (Ab s)).1) (BP T (Ab s)).2:=by rw[BC,a];rfl
theorem AcY(b:Aj T CJ s=false)(a:Aj T F0 s=true):BC T (n+1) l s=BC T n (l++[.proc (AZ T (Ab s)).1]) (AZ T (Ab s)).2:=by rw[BC,b,a];rfl
theorem AcX(b:Aj T CJ s=false)(c:Aj T F0 s=false)(a:Aj T GO s=true):BC T (n+1) l s=BC T n (l++[.func (AZ T (Ab s)).1]) (AZ T (Ab s)).2:=by rw[BC,b,c,a];rfl
theorem AcZ(b:Aj T CJ s=false)(c:Aj T F0 s=false)(a:Aj T GO s=false):BC T n l s=(l,s):=by
 cases n with
 |zero=>rfl
 |succ n=>rw[BC,b,c,a];rfl
end
def AaI(V O cap:Nat)(T:List Az)(a:List Gl×PS)(w:World)(d:Ending)(U:World):Prop:=
 ∃b c,d=.returned b/\B8 (AY w.heap.size) U b c/\CY (AY w.heap.size) U c a.1/\PW V O cap T U a.2/\As V w U
theorem Ac1(y:AR T)(ad:PW V O cap T w s)(a5:An T s):
 Ah 142 #[Al V] w fun g U=>AaI V O cap T (BJ T s) w g U:=by
 have h:=ad.lt;have al:=ad.tlt;have bj:=ad.size;obtain⟨ap,ag,am,an,ao⟩:=info_parts Tryz.infoGlobal;go_enter func142,ntmps142;go_wp2;go_loopw [3] (fun aq wr=> ∃(b:PS)(j:List Value)(m:List Gl)(n:Nat),wr.ownsRow w.heap.size 175 1 aq j.length j/\CY (Ed w.heap.size aq) wr j m/\PW V O cap T wr b/\As V w wr/\An T b/\T.length<=b.next+n/\m.length<=b.next/\Hid (BC T n m b=BJ T s)) (fun _ wr=>T.length -Kp V wr)
 case atStart=>exact⟨s,[],[],T.length,World.ownsRow_nil _ _ _ _,⟨rfl,fun bl aq g a8=>by simp at a8⟩,ad,As.refl _ _,a5,by omega,by simp,rfl⟩
 case round=>
  obtain⟨b,j,m,n,G,Y,Q,e,l,bi,bb,D⟩:=hrel;have ak:=Gq Q;have ai:=e.size;have bd:b.next<T.length:=l;have N:=G.lt;have bk:=Y.1;have bc:(Ab b).next=b.next+1:=rfl
  cases C:Aj T CJ b with
  |true=>
   have A:=AD y l C Ai;have o:=Qm y (Ab b) A;have bh:=AdY y (Ab b) A;obtain⟨i,rfl⟩: ∃i,n=i+1:=⟨n -1,by omega⟩;have J:Hid (BC T i (m++(BP T (Ab b)).1) (BP T (Ab b)).2=BJ T s):=by show _=_;rw[<-D.out,Ac0 C]
   have P:=fun u(k:PW V O cap T u (Ab b))=>Adp y k A;generalize BP T (Ab b)=a at*;have av:=o.2;have au:a.2.next<T.length:=o.1;clear D
   go_wp2_with(first
    |(go_at_call 165;refine(EM Q l CJ C).mono ?_;rintro g u⟨rfl,k,z⟩)
    |(go_at_call 166;refine(P _ k).mono ?_;rintro g v⟨v4,ac,rfl,az,K,L,f,a7,_⟩;have bg:=Nat.le_of_eq K.1;obtain⟨ay,ax,rfl,be,bf,a1⟩:=YC az (Mk.2 a7))
    |(at_builtin;refine Gw rfl _ _ 114 rfl w.heap.size 175 ap _ 1 16 underlying114 ag am an ao rfl (by decide) _ _ _ rfl (DY (DY G z h) f h) (Ac ay 0) ac.length ax ac rfl (by simp) a1 K.oneCell ?h63 ?hby ?hbase ?hh
      case h63=>unfold maxLen;omega
      case hby=>omega
      case hbase=>have:=z.size;have:=f.size;omega
      intro p x H F I;have d:Aside (x.ownsRow w.heap.size 175 1 p (j.length+ac.length) (j++ac)/\v.grownBy x u3.ownBlock/\(p.ownBlock=u3.ownBlock\/ ∀c,p.ownBlock=some c->v.heap.size<=c)):=⟨H,F,I⟩
      clear H F I))
   have E:PW V O cap T x a.2:=L.grown d.out.2.1 (fun c e=>(N c e).1) h al
   go_roundw
   case rel=>
    exact⟨a.2,j++ac,m++a.1,i,by rw[AG];exact d.out.1,CY.grow h ai Y G z f K d.out.2.1 d.out.2.2,E,
     He (e.trans (z.trans f)) d.out.2.1 (fun c e=>(N c e).1),o.1,by omega,by rw[AG];omega,J⟩
   case measure=>
    rw[Gq E,ak];omega
  |false=>
   cases M:Aj T F0 b with
   |true=>
    have A:=AD y l M Ai;have o:=K6 y (Ab b) A;obtain⟨i,rfl⟩: ∃i,n=i+1:=⟨n -1,by omega⟩;have J:Hid (BC T i (m++[.proc (AZ T (Ab b)).1]) (AZ T (Ab b)).2=BJ T s):=by show _=_;rw[<-D.out,AcY C M]
    have P:=fun u(k:PW V O cap T u (Ab b))=>Zd y k A;generalize AZ T (Ab b)=a at*;have av:=o.2;have au:a.2.next<T.length:=o.1;clear D
    go_wp2_with(first
     |(go_at_call 165;refine(EM R l F0 M).mono ?_;rintro g u⟨rfl,k,z⟩;have B:=Z.trans z)
     |(go_at_call 165;refine(D2 Q l CJ C).mono ?_;rintro g aw⟨rfl,R,Z⟩)
     |(go_at_call 167;refine(P _ k).mono ?_;rintro g v⟨t,r,q,ba,rfl,X,W,S,ae,L,f⟩;have a4:=X.cells;have a3:=W.cells;have a2:=S.cells)
     |(at_builtin;refine Gw rfl _ _ 114 rfl w.heap.size 175 ap _ 1 16 underlying114 ag am an ao rfl (by decide) _ _ _ rfl ((DY (DY G B h) f h).alloc _) (Ac _ 0) 1 1 [.iface 220 (.agg #[.string a.1.name.1,Aa a.1.name.2,t,r,q])] rfl rfl (cell_one_new _ _ _) ?proch1 ?proch63 ?prochby ?prochbase ?prochh
       case proch1=>intro a9 aa;simp at aa;subst aa;rfl
       case proch63=>unfold maxLen;omega
       case prochby=>omega
       case prochbase=>have:=B.size;have:=f.size;simp;omega
       intro p x H F I;have d:Aside (x.ownsRow w.heap.size 175 1 p (j.length+1) (j++[.iface 220 (.agg #[.string a.1.name.1,Aa a.1.name.2,t,r,q])])/\(v.alloc (.cells #[.iface 220 (.agg #[.string a.1.name.1,Aa a.1.name.2,t,r,q])] 175)).grownBy x u3.ownBlock/\(p.ownBlock=u3.ownBlock\/ ∀c,p.ownBlock=some c->(v.alloc (.cells #[.iface 220 (.agg #[.string a.1.name.1,Aa a.1.name.2,t,r,q])] 175)).heap.size<=c)):=⟨H,F,I⟩
       clear H F I))
    have E:PW V O cap T x a.2:=(L.alloc _).grown d.out.2.1 (fun c e=>(N c e).1) h al;have K:CY (AY u.heap.size) (v.alloc (.cells #[.iface 220 (.agg #[.string a.1.name.1,Aa a.1.name.2,t,r,q])] 175)) _ _:=.one ((Fu.proc a.1 X W S ae).keep ⟨by simp,fun ar af aj=>Below.heap_alloc _ _ _ aj⟩)
    go_roundw
    case rel=>
     exact⟨a.2,j++[_],m++[.proc a.1],i,by rw[AG];exact d.out.1,CY.grow h ai Y G B (f.alloc _) K d.out.2.1 d.out.2.2,E,
      He ((e.trans (B.trans f)).alloc _) d.out.2.1 (fun c e=>(N c e).1),o.1,by omega,by rw[AG];simp;omega,J⟩
    case measure=>
     rw[Gq E,ak];omega
   |false=>
    cases ab:Aj T GO b with
    |true=>
     have A:=AD y l ab Ai;have o:=K6 y (Ab b) A;obtain⟨i,rfl⟩: ∃i,n=i+1:=⟨n -1,by omega⟩;have J:Hid (BC T i (m++[.func (AZ T (Ab b)).1]) (AZ T (Ab b)).2=BJ T s):=by show _=_;rw[<-D.out,AcX C M ab]
     have P:=fun u(k:PW V O cap T u (Ab b))=>Zd y k A;generalize AZ T (Ab b)=a at*;have av:=o.2;have au:a.2.next<T.length:=o.1;clear D
     go_wp2_with(first
      |(go_at_call 165;refine(EM a0 l GO ab).mono ?_;rintro g u⟨rfl,k,z⟩;have B:=(Z.trans a6).trans z)
      |(go_at_call 165;refine(D2 R l F0 M).mono ?_;rintro g bm⟨rfl,a0,a6⟩)
      |(go_at_call 165;refine(D2 Q l CJ C).mono ?_;rintro g aw⟨rfl,R,Z⟩)
      |(go_at_call 167;refine(P _ k).mono ?_;rintro g v⟨t,r,q,ba,rfl,X,W,S,ae,L,f⟩;have a4:=X.cells;have a3:=W.cells;have a2:=S.cells)
      |(at_builtin;refine Gw rfl _ _ 114 rfl w.heap.size 175 ap _ 1 16 underlying114 ag am an ao rfl (by decide) _ _ _ rfl ((DY (DY G B h) f h).alloc _) (Ac _ 0) 1 1 [.iface 222 (.agg #[.string a.1.name.1,Aa a.1.name.2,t,r,q])] rfl rfl (cell_one_new _ _ _) ?funch1 ?funch63 ?funchby ?funchbase ?funchh
        case funch1=>intro a9 aa;simp at aa;subst aa;rfl
        case funch63=>unfold maxLen;omega
        case funchby=>omega
        case funchbase=>have:=B.size;have:=f.size;simp;omega
        intro p x H F I;have d:Aside (x.ownsRow w.heap.size 175 1 p (j.length+1) (j++[.iface 222 (.agg #[.string a.1.name.1,Aa a.1.name.2,t,r,q])])/\(v.alloc (.cells #[.iface 222 (.agg #[.string a.1.name.1,Aa a.1.name.2,t,r,q])] 175)).grownBy x u3.ownBlock/\(p.ownBlock=u3.ownBlock\/ ∀c,p.ownBlock=some c->(v.alloc (.cells #[.iface 222 (.agg #[.string a.1.name.1,Aa a.1.name.2,t,r,q])] 175)).heap.size<=c)):=⟨H,F,I⟩
        clear H F I))
     have E:PW V O cap T x a.2:=(L.alloc _).grown d.out.2.1 (fun c e=>(N c e).1) h al;have K:CY (AY u.heap.size) (v.alloc (.cells #[.iface 222 (.agg #[.string a.1.name.1,Aa a.1.name.2,t,r,q])] 175)) _ _:=.one ((Fu.func a.1 X W S ae).keep ⟨by simp,fun ar af aj=>Below.heap_alloc _ _ _ aj⟩)
     go_roundw
     case rel=>
      exact⟨a.2,j++[_],m++[.func a.1],i,by rw[AG];exact d.out.1,CY.grow h ai Y G B (f.alloc _) K d.out.2.1 d.out.2.2,E,
       He ((e.trans (B.trans f)).alloc _) d.out.2.1 (fun c e=>(N c e).1),o.1,by omega,by rw[AG];simp;omega,J⟩
     case measure=>
      rw[Gq E,ak];omega
    |false=>
     have J:Hid (BJ T s=(m,b)):=by show _=_;rw[<-D.out,AcZ C M ab]
     clear D;go_wp2_with(first|(go_at_call 165;refine(D2 k l GO ab).mono ?_;rintro g v⟨rfl,L,f⟩)|(go_at_call 165;refine(D2 R l F0 M).mono ?_;rintro g u⟨rfl,k,z⟩)|(go_at_call 165;refine(D2 Q l CJ C).mono ?_;rintro g aw⟨rfl,R,Z⟩));go_ret;have ah:=(Z.trans z).trans f;refine⟨_,j,rfl,QM (DY G ah h),?_⟩;rw[J.out];exact⟨(Y.keep (IE ah h)).weak (fun ar af _=>af.1),L,e.trans ah⟩
theorem AfS(a:TK):(a.p !=0)= !decide (a=.over):=by cases a<;>rfl
def AaS(V O cap:Nat)(T:List Az)(a:Pr×PS)(w:World)(e:Ending)(U:World):Prop:=
 ∃d c b bs,e=.returned (.agg #[d,c])/\B8 (AY w.heap.size) U d b/\CY (AY w.heap.size) U b a.1.globals/\B8 (AY w.heap.size) U c bs/\Di (AY w.heap.size) U bs a.1.body/\PW V O cap T U a.2/\As V w U
theorem AfZ(e:AR T)(p:PW V O cap T w s)(L:An T s):
 Ah 119 #[Al V] w fun c U=>AaS V O cap T (Bd T s) w c U:=by
 have M:=p.lt;have ap:=p.tlt;have F:=(XW e s L).1;have G:=(OA e _ F).1;have H:=(Ch e (f:=DR) Ai G).1;have ac:=fun o=>Ac1 e (p.alloc o) L;have ab:=fun g(r:PW V O cap T g (BJ T s).2)=>U8 e r F;have X:Hid (Bd T s=(⟨(BJ T s).1,(BT T (BJ T s).2).1⟩,Dm T (Am T DR (BT T (BJ T s).2).2))):=rfl;generalize BT T (BJ T s).2=C at*;generalize BJ T s=rg at*;generalize N:Am T DR C.2=b at*;have ai:=Nx;have J:=fun D(t:PW V O cap T D C.2)=>F4 t G DR;rw[N] at J;clear N;have q:=fun W(i:PW V O cap T W b)=>Hz i H;cases f:AN T .over b
 focus
  have E:Hid (Dm T b=AI T 4 b):=by show _=_;simp[Dm,f]
  have al:((Ad T b).kind.p !=0)=true:=by rw[AfS];simpa[AN] using f
 rotate_left
 focus
  have E:Hid (Dm T b=b):=by show _=_;simp[Dm,f]
  rw[show(Ad T b).kind=.over by simpa[AN] using f] at q;simp only[TK.p] at q
 all_goals
  clear f;go_enter func119,ntmps119;go_wp2_with(first|(go_at_call 142;refine(ac _).mono ?_;rintro c g⟨n,Y,rfl,x,aa,r,j⟩;have ak:=x.cells;have ao:=Cf (v:=n) (JW x))|(go_at_call 143;refine(ab _ r).mono ?_;rintro c D⟨m,ah,rfl,v,Z,t,z⟩;have aj:=v.cells;have an:=Cf (v:=m) (JW v))|(go_at_call 144;refine(J _ t).mono ?_;rintro c W⟨rfl,i,k⟩)|(go_at_call 145;refine(q _ i).mono ?_;rintro c aq⟨rfl,K⟩;have u:=i.below K;have d:=As.of_below (pb:=V) K;obtain⟨Q,q1,ag⟩:=(((j.trans z).trans k).trans d).new M)|(go_at_call 146;refine(MI u H 4).mono ?_;rintro c ar⟨rfl,ad,af⟩;replace u:=ad;replace d:=d.trans af;obtain⟨Q,q1,ag⟩:=(((j.trans z).trans k).trans d).new M));refine bodyPost_ret (v:=.agg #[n,m]) (by simp[results,results119,go_sem,Q]) rfl ?_;go_light;refine⟨n,m,Y,ah,rfl,?_⟩;rw[X.out];show B8 _ _ _ _/\CY _ _ _ rg.1/\B8 _ _ _ _/\Di _ _ _ C.1/\PW _ _ _ _ _ (Dm T b)/\_;rw[E.out];have am:w.heap.size+1<=g.heap.size:=by have:=j.size;simp at this;omega
  have I: ∀A,AY (w.heap.size+1) A->A≠w.heap.size:=fun A ae=>by unfold AY at ae;omega
  have B:=(z.trans k).trans d;have P:=k.trans d;have l:=fun h=>((BR.refl (AY (w.heap.size+1)) h).setCell (Ac w.heap.size 0) n I).setCell (Ac w.heap.size 1) m I;have up: ∀(h:World) a,AY (w.heap.size+1) a->a<h.heap.size->AY w.heap.size a:=fun h a y _=>by unfold AY at*;omega
  have S: ∀a,AY (w.alloc (.cells #[Aw,Aw] 117)).heap.size a->a<g.heap.size->AY (w.heap.size+1) a:=fun a y _=>by unfold AY at*;simpa using y
  have R: ∀a,AY g.heap.size a->a<D.heap.size->AY (w.heap.size+1) a:=fun a y _=>by unfold AY at*;omega
  refine⟨(((x.weak S).keep (B.keepQ (by omega))).keep (l _)).weak (up _),(((aa.weak S).keep (B.keepQ (by omega))).keep (l _)).weak (up _),
   (((v.weak R).keep (P.keepQ (by omega))).keep (l _)).weak (up _),(((Z.weak R).keep (P.keepQ (by omega))).keep (l _)).weak (up _),
   (u.setOther _ _ ?_ ?_).setOther _ _ ?_ ?_,((((As.refl _ _).alloc _).trans (j.trans B)).setNew ?_ _).setNew ?_ _⟩
  all_goals(simp;try omega)
end
theorem As.new2{w d:World}{b:Array Value}{c:TypeId}{o:Obj}(f:As (w.heap.size+1) ((w.alloc (.cells b c)).alloc o) d):
 (∀a,d.cell? (Ac w.heap.size a)=b[a]?)/\(∀a,d.frozen? (Ac w.heap.size a)=false)/\w.heap.size+1<d.heap.size:=by
 have h:=f.size;have g:(w.alloc (.cells b c)).heap.size=w.heap.size+1:=by simp
 have e:((w.alloc (.cells b c)).alloc o).heap.size=w.heap.size+2:=by simp
 rw[e] at h;refine⟨fun a=> ?_,fun a=> ?_,by omega⟩
 ·rw[f.cell (p:=Ac w.heap.size a) (by rw[e];show w.heap.size<_;omega) (by show w.heap.size≠_;omega),EW _ _ _ (by rw[g];show w.heap.size<_;omega)];exact Cl w b c a
 ·rw[f.frozen (p:=Ac w.heap.size a) (by rw[e];show w.heap.size<_;omega) (by show w.heap.size≠_;omega),World.frozen?_alloc_old _ _ _ (by rw[g];show w.heap.size≠_;omega)];exact Gc w b c a
theorem As.toBelow{V B:Nat}{b c:World}(a:As V b c)(e:B<=b.heap.size)(f:B<=V):Below B b c:=⟨a.os,a.tape,a.output,a.size,fun d g=>a.block d (by omega) (by omega)⟩
theorem BR.alloc{Q:AW}{a w:World}(b:BR Q a w)(o:Obj):BR Q a (w.alloc o):=b.trans ⟨by simp,fun d _ c=>Below.heap_alloc _ _ _ c⟩
def UP(T:List Az)(w:World)(a:Ending)(U:World):Prop:=
 Ay w U/\
 (((Bd T ⟨0,0,0⟩).2.code≠0/\a=.returned (.tuple #[.agg #[Aw,Aw],Aa (Bd T ⟨0,0,0⟩).2.code,Aa (Bd T ⟨0,0,0⟩).2.at_]))\/
  ((Bd T ⟨0,0,0⟩).2.code=0/\ ∃d c b bs,a=.returned (.tuple #[.agg #[d,c],Aa 0,Aa 0])/\B8 (AY w.heap.size) U d b/\CY (AY w.heap.size) U b (Bd T ⟨0,0,0⟩).1.globals/\B8 (AY w.heap.size) U c bs/\Di (AY w.heap.size) U bs (Bd T ⟨0,0,0⟩).1.body))
theorem AfU{T:List Az}{w:World}{O cap:Nat}(F:AR T)(V:T.length<=601)(Y:O<w.heap.size)(Z: ∀m q,(Ft T)[m]? =some q->w.cell? (Ac O m)=some q):
 Ah 86 #[Ar O T.length cap] w fun t U=>UP T w t U:=by
 have P:=F.pos;have D:=fun(k:World)(K:PW (w.heap.size+1) O cap T k ⟨0,0,0⟩)=>AfZ F K (by show 0<T.length;exact P);generalize I:Bd T ⟨0,0,0⟩=p at*
 have x:Hid (∀(g:Obj),PW (w.heap.size+1) O cap T ((w.alloc g).alloc (.cells #[Aa 0,Aa 0,Ar O T.length cap,Aa 0] 198)) ⟨0,0,0⟩):=by
  intro g;have y:(w.alloc g).heap.size=w.heap.size+1:=by simp
  have h:=fun o=>Cl (w.alloc g) #[Aa 0,Aa 0,Ar O T.length cap,Aa 0] 198 o;have z:=fun o=>Gc (w.alloc g) #[Aa 0,Aa 0,Ar O T.length cap,Aa 0] 198 o;rw[y] at h z;refine⟨h 0,h 1,h 2,h 3,z,fun m q R=> ?_,by omega,by simp;omega,V⟩;rw[EW _ _ _ (by rw[y];show O<_;omega),EW _ _ _ Y];exact Z m q R
 by_cases H:p.2.code=0
 ·go_enter func86,ntmps86
  go_wp2_with(go_at_call 119;refine(D _ (x.out _)).mono ?_;rintro t b⟨d,c,A,J,rfl,f,C,e,B,l,i⟩
              have M:=f.cells;have X:=Cf (v:=d) (JW f);have L:=e.cells;have W:=Cf (v:=c) (JW e);have N:=l.code;obtain⟨j,q1,S⟩:=i.new2
              have u:w.heap.size<b.heap.size:=by omega)
  refine bodyPost_ret (v:=.tuple #[.agg #[d,c],Aa 0,Aa 0]) (by simp[results,results86,go_sem,j,u]) rfl ?_;go_light;have s:Ay w b:=(AP.alloc (by simp) _).trans (i.toBelow (by simp;omega) (by omega));refine⟨((s.setCell (AA _) _).setCell (AA _) _).alloc (by simp[World.setCell];omega) _,.inr ?_⟩;rw[I];have E: ∀v,AY (w.heap.size+1) v->v≠w.heap.size:=fun v Q=>by unfold AY at Q;omega
  have n:=(((BR.refl (AY (w.heap.size+1)) b).setCell (Ac w.heap.size 0) d E).setCell (Ac w.heap.size 1) c E).alloc (.cells #[d,c] 117);have up: ∀(k:World) a,AY (w.heap.size+1) a->a<k.heap.size->AY w.heap.size a:=fun k a G _=>by unfold AY at*;omega
  have r: ∀a,AY ((w.alloc (.cells #[Aw,Aw] 117)).alloc (.cells #[Aa 0,Aa 0,Ar O T.length cap,Aa 0] 198)).heap.size a->a<b.heap.size->AY (w.heap.size+1) a:=fun a G _=>by unfold AY at*;simp at G;omega
  exact⟨H,d,c,A,J,rfl,((f.weak r).keep n).weak (up _),((C.weak r).keep n).weak (up _),((e.weak r).keep n).weak (up _),((B.weak r).keep n).weak (up _)⟩
 ·have ab:((p.2.code:Int) !=0)=true:=by simp;omega
  go_enter func86,ntmps86
  go_wp2_with(go_at_call 119;refine(D _ (x.out _)).mono ?_;rintro t b⟨d,c,A,J,rfl,f,C,e,B,l,i⟩
              have M:=f.cells;have X:=Cf (v:=d) (JW f);have L:=e.cells;have W:=Cf (v:=c) (JW e);have N:=l.code;have aa:=l.at_;obtain⟨j,q1,S⟩:=i.new2;have u:w.heap.size<b.heap.size:=by omega
              have ac:b.cell? (Ac w.heap.size 0)=some Aw:=j 0;have ad:b.cell? (Ac w.heap.size 1)=some Aw:=j 1;have ae:=q1 0
              have af:=q1 1)
  go_region;go_wp2;refine bodyPost_ret (v:=.tuple #[.agg #[Aw,Aw],Aa p.2.code,Aa p.2.at_]) (by simp[results,results86,go_sem,j,u]) rfl ?_;go_light;have s:Ay w b:=(AP.alloc (by simp) _).trans (i.toBelow (by simp;omega) (by omega));refine⟨(((s.setCell (AA _) _).setCell (AA _) _).alloc (by simp[World.setCell];omega) _).drew,.inl ?_⟩;rw[I];exact⟨H,rfl⟩
theorem Ae0{l:List UInt8}{b:Nat}{a:TK×Nat×Nat}(g:l.length<=600)(i:b<l.length)(d:Cw (l.drop b)=.ok a):DH (FP l b a).text:=by
 have h:=JN (k:=a.1) (n:=a.2.1) (v:=a.2.2) d;have c:(FP l b a).text.toList=(l.drop b).take a.2.1:=by show(bs ((l.drop b).take a.2.1)).toList=_;rw[I7]
 refine⟨?_,?_⟩
 ·rw[c];intro e;have f:((l.drop b).take a.2.1).length=0:=by rw[e];rfl
  rw[It,Hj] at f;omega
 ·show(((l.drop b).take a.2.1).toArray).size<=600;simp;omega
theorem Tg(l:List UInt8)(k:l.length<=600): ∀(j c:Nat)(T:List Az),l.length -c<=j->FB l c=.ok T-> ∀d∈T,d.kind=.name->DH d.text
 |0,c,T,m,a=>by rw[Jd (by omega)] at a;cases a;intro d b f;simp at b;subst b;cases f
 |j+1,c,T,m,a=>by
  by_cases g:c<l.length
  ·cases h:Cw (l.drop c) with
   |error p=>rw[MZ g h] at a;cases a
   |ok e=>
    rw[Nb g h] at a;have s:=JN (k:=e.1) (n:=e.2.1) (v:=e.2.2) h;have r:=KV l (c+e.2.1);cases i:FB l (B3 l (c+e.2.1)) with
    |error q=>rw[i] at a;cases a
    |ok o=>
     rw[i] at a;cases a;have n:=Tg l k j (B3 l (c+e.2.1)) o (by omega) i;intro d b f;rcases C0.1 b with rfl|b
     ·exact Ae0 k g h
     ·exact n d b f
  ·rw[Jd g] at a;cases a;intro d b f;simp at b;subst b;cases f
def NM(Q:AW)(w:World)(d:Value)(p:Pr):Prop:= ∃c b a bs,d=.agg #[c,b]/\B8 Q w c a/\CY Q w a p.globals/\B8 Q w b bs/\Di Q w bs p.body
def Jx(w:World)(a:Value)(p:Pr):Prop:= ∃Q,NM Q w a p
theorem NM.keep{Q:AW}{w U:World}{b:Value}{p:Pr}(h:NM Q w b p)(a:BR Q w U):NM Q U b p:=by obtain⟨j,i,g,bs,rfl,c,d,e,f⟩:=h;exact⟨j,i,g,bs,rfl,c.keep a,d.keep a,e.keep a,f.keep a⟩
def My(l:List UInt8)(w:World)(f:Ending)(U:World):Prop:=
 Ay w U/\ ∃d e gc a c b,f=.returned (.tuple #[.agg #[.slice d e gc,.slice a c b],Aa ((B1 l).1:Nat),Aa ((B1 l).2:Nat)])/\
  ∀T,l.length<=600->DD l=.ok T->(Bd T ⟨0,0,0⟩).2.code=0->Jx U (.agg #[.slice d e gc,.slice a c b]) (Bd T ⟨0,0,0⟩).1
theorem QG{w c:World}{a b:Value}{d:TypeId}(e:Below (w.alloc (.cells #[a,b] d)).heap.size (w.alloc (.cells #[a,b] d)) c):
 c.cell? (Ac w.heap.size 0)=some a/\c.cell? (Ac w.heap.size 1)=some b/\c.frozen? (Ac w.heap.size 0)=false/\c.frozen? (Ac w.heap.size 1)=false:=by
 have f:w.heap.size<(w.alloc (.cells #[a,b] d)).heap.size:=by simp
 have g:=fun o=>Cl w #[a,b] d o;have h:=fun o=>Gc w #[a,b] d o;refine⟨?_,?_,?_,?_⟩
 ·rw[e.cell f];exact g 0
 ·rw[e.cell f];exact g 1
 ·rw[e.frozen f];exact h 0
 ·rw[e.frozen f];exact h 1
theorem Agg(s:Af)(w:World):
 Ah 65 #[.string s] w (My s.data.toList w):=by
 have H:s.data.toList.length=s.size:=Fo s;have J: ∀k,Ay w (w.alloc k):=fun k=>AP;by_cases G:600<s.size
 ·have l:Hid (B1 s.data.toList=(1,0)):=by show _=_;unfold B1;rw[Ag (by omega)]
  have a3:(600:Int)<(s.size:Int):=by omega
  have ay:Hid (¬s.data.toList.length<=600):=by show¬_;omega
  clear G H;go_enter func65,ntmps65;go_wp2;refine bodyPost_ret (v:=.tuple #[.agg #[Aw,Aw],Aa 1,Aa 0]) (by simp[results,results65,go_sem]) rfl ?_;go_light;unfold My;rw[l.out];exact⟨J _,_,_,_,_,_,_,rfl,fun T i=>absurd i ay.out⟩
 ·have a3: ¬(600:Int)<(s.size:Int):=by omega
  have B:=fun a=>AiV s a (by omega);cases e:DD s.data.toList with
  |error bg=>
   obtain⟨v,L⟩:=bg;have l:Hid (B1 s.data.toList=(v,L)):=by show _=_;unfold B1;rw[Ae (by omega),e]
   have F: ∀a,Ah 85 #[.string s] a fun c U=>c=.returned (.tuple #[Aw,Aa v,Aa L])/\Ay a U:=fun a=>by
    refine(B a).mono ?_;rintro c U⟨p,⟨a1,bb,h,rfl⟩|⟨be,bf,h,rfl,I⟩⟩
    ·rw[e] at h;cases h;exact⟨rfl,p⟩
    ·rw[e] at h;cases h
   have a5:=Xl e;have a6:((v:Int) !=0)=true:=by simp;omega
   have D:Hid (DD s.data.toList=.error (v,L)):=e;clear B e a5 G H;go_enter func65,ntmps65;go_wp2_with(go_at_call 85;refine(F _).mono ?_;rintro c r⟨rfl,g⟩;obtain⟨x,y,ah,ai⟩:=QG g);refine bodyPost_ret (v:=.tuple #[.agg #[Aw,Aw],Aa v,Aa L]) (by simp[results,results65,go_sem,x,y]) rfl ?_;go_light;unfold My;rw[l.out];refine⟨?_,_,_,_,_,_,_,rfl,fun T _ i=>by rw[D.out] at i;cases i⟩;exact(((J _).trans (g.mono (by simp))).setCell (AA _) _).setCell (AA _) _
  |ok T=>
   obtain⟨am,i⟩:=Na s.data.toList _ _ T (AA _) e;have X:T.length<=601:=by omega
   have aq:=i.pos;have V:NT T:=⟨X,Tg s.data.toList (by omega) _ _ T (AA _) e⟩;have D:Hid (∀f,DD s.data.toList=.ok f->f=T):=fun f aj=>by rw[e] at aj;cases aj;rfl
   have F: ∀a,Ah 85 #[.string s] a fun c U=> ∃O cap,c=.returned (.tuple #[Ar O T.length cap,Aa 0,Aa 0])/\Ay a U/\O<U.heap.size/\ ∀b d,(Ft T)[b]? =some d->U.cell? (Ac O b)=some d:=fun a=>by
    refine(B a).mono ?_;rintro c U⟨p,⟨a1,bb,h,rfl⟩|⟨be,bf,h,rfl,I⟩⟩
    ·rw[e] at h;cases h
    ·rw[e] at h;cases h;obtain⟨O,cap,rfl,_,a8⟩:=I.form aq;refine⟨O,cap,rfl,p,a8,fun b d an=> ?_⟩;have ao:b<(Ft T).length:=(BH.1 an).1;rw[I.cellAt b (by rw[I.1] at ao;exact ao)];exact an
   have A:=fun(a:World)(O cap:Nat)(a9:O<a.heap.size)(ba: ∀b d,(Ft T)[b]? =some d->a.cell? (Ac O b)=some d)=>AfU (cap:=cap) i X a9 ba;unfold UP at A;by_cases j:(Bd T ⟨0,0,0⟩).2.code=0
   ·have ak:Pm T (Bd T ⟨0,0,0⟩).1:=AfC i V aq rfl j;have l:Hid (B1 s.data.toList=AF (D7 Bv (Bd T ⟨0,0,0⟩).1) (0,0)):=by show _=_;unfold B1;rw[Ae (by omega),e];simp only;rw[Ag j];cases D7 Bv (Bd T ⟨0,0,0⟩).1<;>rfl
    have E: ∀(a:World)(O cap:Nat),O<a.heap.size->(∀b d,(Ft T)[b]? =some d->a.cell? (Ac O b)=some d)->Ah 86 #[Ar O T.length cap] a fun c U=>Ay a U/\ ∃o z gc m u n,c=.returned (.tuple #[.agg #[.slice o z gc,.slice m u n],Aa 0,Aa 0])/\
     Hid (NM (AY a.heap.size) U (.agg #[.slice o z gc,.slice m u n]) (Bd T ⟨0,0,0⟩).1)/\
     Hid (∀k,Ah 87 #[.agg #[.slice o z gc,.slice m u n]] (U.alloc k) (Rw (Bd T ⟨0,0,0⟩).1 (U.alloc k))):=fun a O cap R S=>by
     refine(A a O cap R S).mono ?_;rintro c U⟨p,⟨Z,_⟩|⟨_,bm,bl,a2,bs,rfl,P,ae,Q,af⟩⟩
     ·exact absurd j Z
     ·obtain⟨o,gc,rfl⟩:=P.len;obtain⟨m,n,rfl⟩:=Q.len;refine⟨p,o,_,gc,m,_,n,rfl,⟨_,_,a2,bs,rfl,P,ae,Q,af⟩,fun k=> ?_⟩;have K:Ay U (U.alloc k):=AP;exact Aer X (P.keep (Hs K)) (ae.keep (Hs K)) (Q.keep (Hs K)) (af.keep (Hs K)) ak
    have az:Hid ((Bd T ⟨0,0,0⟩).1=(Bd T ⟨0,0,0⟩).1):=rfl;generalize ap:(Bd T ⟨0,0,0⟩).1=ar at*;have a0:Hid ((Bd T ⟨0,0,0⟩).1=ar):=ap;clear az ap;unfold Rw at E;generalize AF (D7 Bv ar) (0,0)=ag at*;clear A B e G H am j ak V;go_enter func65,ntmps65
    go_wp2_with(first
     |(go_at_call 85;refine(F _).mono ?_;rintro c r⟨O,cap,rfl,g,aa,C⟩;have N:Hid (∀b d,(Ft T)[b]? =some d->r.cell? (Ac O b)=some d):=C;clear C)
     |(go_at_call 86;refine(E r O cap aa N.out).mono ?_;rintro c ac⟨t,o,z,gc,m,u,n,rfl,av,ax⟩)
     |(go_at_call 87;refine(ax.out _).mono ?_;rintro c ad⟨rfl,Y⟩
       have q:=g.trans ((t.mono g.size).trans (((Below.refl _ _).alloc (AT g.size t.size) _).trans (Y.mono (by have:=t.size;have:=g.size;simp at*;omega))));obtain⟨x,y,ah,ai⟩:=QG q;obtain⟨bh,bi,bj,bk⟩:=QG Y;have M:Hid (Ay w ad):=(J _).trans (q.mono (by simp));have aw:Hid (Ay ac ad):=AP.trans (Y.mono (by simp))
       clear q))
    refine bodyPost_ret (v:=.tuple #[.agg #[.slice o z gc,.slice m u n],Aa ag.1,Aa ag.2]) (by simp[results,results65,go_sem,x,y]) rfl ?_;go_light;unfold My;rw[l.out];refine⟨?_,_,_,_,_,_,_,rfl,fun f _ W _=> ?_⟩
    ·exact(M.out.setCell (AA _) _).setCell (AA _) _
    ·obtain rfl:=D.out f W;rw[a0.out];have al: ∀ab,AY r.heap.size ab->ab≠w.heap.size:=fun ab a7=>by unfold AY at a7;have:=g.size;simp at this;omega
     exact⟨_,(av.out.keep (Hs aw.out)).keep (((BR.refl _ ad).setCell (Ac w.heap.size 0) _ al).setCell (Ac w.heap.size 1) _ al)⟩
   ·have a6:(((Bd T ⟨0,0,0⟩).2.code:Int) !=0)=true:=by simp;omega
    have l:Hid (B1 s.data.toList=((Bd T ⟨0,0,0⟩).2.code,(Bd T ⟨0,0,0⟩).2.at_)):=by show _=_;unfold B1;rw[Ae (by omega),e];simp only;rw[Ae j]
    have E: ∀(a:World)(O cap:Nat),O<a.heap.size->(∀b d,(Ft T)[b]? =some d->a.cell? (Ac O b)=some d)->Ah 86 #[Ar O T.length cap] a fun c U=>Ay a U/\c=.returned (.tuple #[.agg #[Aw,Aw],Aa (Bd T ⟨0,0,0⟩).2.code,Aa (Bd T ⟨0,0,0⟩).2.at_]):=fun a O cap R S=>by
     refine(A a O cap R S).mono ?_;rintro c U⟨p,⟨_,rfl⟩|⟨Z,_⟩⟩
     ·exact⟨p,rfl⟩
     ·exact absurd Z j
    have au:Hid (∀f,f=T->(Bd f ⟨0,0,0⟩).2.code≠0):=fun f c=>by rw[c];exact j
    generalize(Bd T ⟨0,0,0⟩).2.code=bd at*;generalize(Bd T ⟨0,0,0⟩).2.at_=bc at*;clear A B e G H am j V;go_enter func65,ntmps65
    go_wp2_with(first
     |(go_at_call 85;refine(F _).mono ?_;rintro c r⟨O,cap,rfl,g,aa,C⟩;have N:Hid (∀b d,(Ft T)[b]? =some d->r.cell? (Ac O b)=some d):=C;clear C)
     |(go_at_call 86;refine(E r O cap aa N.out).mono ?_;rintro c ac⟨t,rfl⟩
       have q:=g.trans ((t.mono g.size).trans ((Below.refl _ _).alloc (AT g.size t.size) (.cells #[Aw,Aw] 117)));obtain⟨x,y,ah,ai⟩:=QG q;have M:Hid (Ay w (ac.alloc (.cells #[Aw,Aw] 117))):=(J _).trans (q.mono (by simp))
       clear q))
    refine bodyPost_ret (v:=.tuple #[.agg #[Aw,Aw],Aa bd,Aa bc]) (by simp[results,results65,go_sem,x,y]) rfl ?_;go_light;unfold My;rw[l.out];refine⟨?_,_,_,_,_,_,_,rfl,fun f _ W a4=> ?_⟩
    ·exact(M.out.setCell (AA _) _).setCell (AA _) _
    ·exact absurd a4 (au.out f (D.out f W))
