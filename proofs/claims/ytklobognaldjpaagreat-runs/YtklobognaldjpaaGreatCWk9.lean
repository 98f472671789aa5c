/- The reference's walk as it runs: set, outside too. The refer -/
import Derived.Test.YtklobognaldjpaaGreatCRx10
import Derived.Deep.CutBlock
set_option maxRecDepth 1000000
set_option maxHeartbeats 4000000
namespace Go.Proofs.YtklobognaldjpaaGreat
open Go.Proofs.Tryz
open Go.RowKit
section
variable{O U cap B:Nat}{T:List Az}{c:Nat}{Z:Int}{J:Value}{G:List GC}{I:Value}{H:List GC}{w X:World}{K Y:Value}{S S':RS}
section
variable(h:RA O U cap B T c Z J G I H w K Y S)
include h
theorem RA.setG{j:Nat}{p:GC}(q:G[j]? =some p){f:RC}(D:S.glob[j]? =some f){vb vcap:Nat}(v:p.vv=Ar vb f.vals.length vcap)(l:Nat)(m:Int)(N:VB m):
 RA O U cap B T c Z J G I H (w.setCell (Ac vb l) (Aa m)) K Y {S with glob:=S.glob.set j ⟨f.name,f.vals.set l m⟩}/\Kf O G H Y Y w (w.setCell (Ac vb l) (Aa m)):=by
 obtain⟨y,z,Q,E⟩:=h.gv.2 j p q;unfold RS.gs at z;rw[CC,D] at z;cases z;have u:p.vv.ownBlock=some vb:=by rw[v];rfl
 have W:=(E.lt vb u).1;have R:w.ownsRow (O+1) 3 1 (Ar vb f.vals.length vcap) f.vals.length (f.vals.map (.int .i64)):=by rw[<-v];exact E
 obtain⟨q1,P⟩:=R.stored l (Aa m);have hF:=V8 P;have M:G.length=S.glob.length:=by rw[h.gv.1];unfold RS.gs;rw[BF]
 have V:=(BH.1 q).1;have o: ∀(e:Nat)(a:Value),e≠3+j->(BO J I Y G H)[e]? =some a->a.ownBlock≠some vb:=fun e a g i=>KU h.apt (fun d=>g d.symm) (PI q) i vb u;have C: ∀a:Value,a.ownBlock≠some vb-> ∀b,a.ownBlock=some b->b<w.heap.size->(w.setCell (Ac vb l) (Aa m)).heap[b]? =w.heap[b]? :=fun a i b d F=>hF.block b F (fun n=>i (by rw[d,n]));refine⟨h.vals (by omega) hF (o 0 _ (by omega) rfl) (o 1 _ (by omega) rfl) (o 2 _ (by omega) rfl) (fun y k=>by obtain⟨l,L⟩:=Is k;exact o _ _ (by omega) (Sb L)) ⟨?_,fun e a g=> ?_⟩ ⟨h.hv.1,fun e a g=> ?_⟩ rfl rfl rfl rfl ?_,⟨hF.weak fun b _ d=>.inr (.inl ⟨p,Iu _ (Ct q),by rw[u,d]⟩),fun _ d=>.inl d⟩⟩
 ·show G.length=((S.glob.set j _).map _).length;rw[BF,Lq];exact M
 ·by_cases d:e=j
  ·subst d;rw[q] at g;cases g;refine⟨(f.name,f.vals.set l m),?_,Q,?_⟩
   ·show((S.glob.set e _).map _)[e]? =_;rw[CC,Rr (by omega)];rfl
   ·rw[v,Lq,J5];exact q1
  ·obtain⟨r,s,A,t⟩:=h.gv.2 e a g;refine⟨r,?_,A,Cq t fun b n=>C _ (o (3+e) _ (by omega) (PI g)) b n (t.lt b n).2⟩;show((S.glob.set j _).map _)[e]? =_;rw[CC,Rq (fun n=>d n.symm)];unfold RS.gs at s;rw[CC] at s;exact s
 ·obtain⟨r,s,A,t⟩:=h.hv.2 e a g;exact⟨r,s,A,Cq t fun b d=>C _ (o (3+G.length+e) _ (by omega) (Od g)) b d (t.lt b d).2⟩
 ·intro y k a i;rcases BD.1 k with k|k
  ·obtain⟨r,x,rfl⟩:=CD.1 k;rcases Mo x with x|rfl
   ·exact h.bnd.1 _ (Iu _ (CD.2 ⟨r,x,rfl⟩)) a i
   ·rcases Mo i with i|rfl
    ·exact h.bnd.1 (f.name,f.vals) (Iu _ (CD.2 ⟨f,Ct D,rfl⟩)) a i
    ·exact N
  ·exact h.bnd.1 y (J6 _ k) a i
theorem Zm{s:PS}(P:An T s){i:Int}(ag:i=s.next)(aj:Lv G H S (Ad T s).text)(d:Int)(V:VB d):
 Ah 195 #[Al O,Aa i,Aa d] w fun q X=>q=.returned A6/\Hid (RA O U cap B T c Z J G I H X K Y (S.set (Ad T s).text d))/\Kf O G H Y Y w X:=by
 subst ag;have au:=h.siz;have ap:(s.next:Int)<T.length:=by unfold An at P;omega
 obtain⟨_,_,al⟩:=h.curCells P;have av:w.cell? (Ac O 0)=some (Ar U T.length cap):=h.cel 0 _ rfl;have W:w.cell? (Ac O 4)=some J:=h.cel 4 _ rfl;have aw:w.cell? (Ac O 5)=some I:=h.cel 5 _ rfl;have k:=GV (Kt h.hro) (by rw[BF];exact h.nd.2.2) (Ad T s).text;have y:=GV (Kt (Cq (w':=w.drew) h.gro fun a _=>rfl)) (by rw[BF];exact h.nd.1.2) (Ad T s).text;generalize(Ad T s).text=n at*;rcases aj with⟨a,r,b,l⟩|⟨Q,a,r,f,b,l,z,R⟩
 ·obtain⟨f,ak,aa,u⟩:=SH h.hv h.nd.2 b l;rw[LD h.nd.2 b l] at k;obtain⟨e,A,j,_,_⟩:=u.form (by omega);have m:Hid _:=h.setH b l j d V;obtain⟨g,x,rfl,_,t⟩:=Gt h.hro b;have o:=t 2 (by omega);have C:r.row[2]? =some r.vv:=rfl;rw[C,j] at o;rw[j] at u;have p:=u.cellAt 0 (by omega);rw[Rp] at p;have L:=u.frozenAt 0;have ai:=(BH.1 b).1;have ah:(a:Int)<(H.length:Int):=by omega
  have aq:((a:Int)>=0):=by omega
  simp only[Es] at k;clear h t u y ak aa;go_enter func195,ntmps195;go_wp2_with(go_at_call 152;refine Aq k ?_);refine bodyPost_ret (v:=.tuple #[]) (by simp[results,results195,go_sem]) rfl ?_;exact⟨rfl,m.out.1,m.out.2⟩
 ·obtain⟨aa,ab,ac,v⟩:=MO h.gv h.nd.1 b l;rw[z] at ab;cases ab;have F:S.set n d={S with glob:=S.glob.set a ⟨f.name,f.vals.set 0 d⟩}:=by unfold RS.set;rw[Ws h.hv Q,ac];show{S with glob:=S.glob.set a ⟨(S.glob.getD a default).name,(S.glob.getD a default).vals.set 0 d⟩}=_;rw[Dg,z];rfl
  rw[F];rw[Sq Q] at k;rw[LD h.nd.1 b l] at y;obtain⟨e,A,j,_,_⟩:=v.form R;have m:Hid _:=(h.below (Below.refl w.heap.size w).drew).setG b z j 0 d V;obtain⟨g,x,rfl,_,t⟩:=Gt h.gro b;have o:=t 2 (by omega);have C:r.row[2]? =some r.vv:=rfl;rw[C,j] at o;rw[j] at v;have p:=v.cellAt 0 (by omega);rw[CC,Bb R] at p;have af:w.cell? (Ac e 0)=some (Aa f.vals[0]):=p;have L:=v.frozenAt 0;have ai:=(BH.1 b).1;have ah:(a:Int)<(G.length:Int):=by omega
  have ar:(0:Int)<(f.vals.length:Int):=by omega
  obtain⟨M,ao,rfl,_⟩: ∃M N,I=.slice M H.length N/\H.length<=N:=D9 h.hro;simp only[Es] at k y;clear h t v p z ac F;have am:w.drew.cell? (Ac e 0)=some (Aa f.vals[0]):=af;have an:w.drew.frozen? (Ac e 0)=false:=L;generalize f.vals[0]=ax at*;generalize f.vals.length=D at*;have ad:Hid (w.drew.cell? (Ac O 4)=some (Ar g G.length x)/\w.drew.cell? (Ac g (a*6+2))=some (Ar e D A)):=⟨W,o⟩;have ae:Hid ((w.drew.setCell (Ac e 0) (Aa d)).cell? (Ac O 4)=some (Ar g G.length x)/\(w.drew.setCell (Ac e 0) (Aa d)).cell? (Ac g (a*6+2))=some (Ar e D A)):=⟨by rw[Bh _ _ _ _ (by intro q;cases q)];exact W,by rw[Bh _ _ _ _ (by intro q;cases q)];exact o⟩;go_enter func195,ntmps195;go_wp2_with(go_at_call 152;refine Aq k ?_);go_region_held3(fun E=>E.cell? (Ac O 4)=some (Ar g G.length x)/\E.cell? (Ac g (a*6+2))=some (Ar e D A)) (first|exact ad.out|exact ae.out) ((go_at_call 152;refine Aq y ?_))
  go_wp2;go_end0;exact⟨rfl,m.out.1,(Kf.of_par (As.of_below (Below.refl w.heap.size w).drew)).trans m.out.2⟩
end
variable{m:Option Nm}{n:Nm}{s:PS}
theorem Ie(a:List UInt8):(bs a).toList=a:=by rw[EU];rfl
def AaU(O U cap:Nat)(T:List Az)(m:Option Nm)(s:PS)(kind:Nat)(w:World)(b:Ending)(X:World):Prop:=
 ∃a:Int,b=.returned (Aa a)/\(∀c,RW O U cap T m X (Cs T (Ax m) s kind {s with next:=c}))/\As O w X/\ ∀n,m=some n->a=(n.E.kindIx (Ad T s).text).2
theorem ND(h:RW O U cap T m w s)(r:An T s)(q:s.code=0)(kind:Nat):
 Ah 194 #[Al O,Aa s.next,Aa kind] w (AaU O U cap T m s kind w):=by
 have t:=h.mode_;have y:=h.fault;rw[q] at y;cases m with
 |none=>
  simp only[CU] at t;go_enter func194,ntmps194;go_wp2;go_ret;exact⟨_,rfl,fun a=>h.at a,As.refl _ _,fun n g=>by cases g⟩
 |some n=>
  simp only[CU] at t;have o:=AdH h r;have k:Hid (∀e,e=(n.E.kindIx (Ad T s).text).1-> ∀a,Cs T (Ax (some n)) s kind {s with next:=a}=if e=(kind:Int) then{s with next:=a} else stop T 6 (Ad T s).pos):=by show∀e,_;rintro e rfl a;rfl
  generalize D:(n.E.kindIx (Ad T s).text).1=j at*;generalize u:(n.E.kindIx (Ad T s).text).2=A at*;have l:Hid (∀f,some n=some f->A=(f.E.kindIx (Ad T s).text).2):=by show∀f,_;intro f g;cases g;exact u.symm
  have p:=fun b=>H8 (h.drew b) r 6 s.next (fun _=>rfl);clear u;by_cases d:j=(kind:Int)
  ·subst d;clear p;go_enter func194,ntmps194;go_wp2_with(go_at_call 208;refine o.mono ?_;rintro c B⟨rfl,b,i⟩;obtain rfl:=i);go_ret;exact⟨_,rfl,fun a=>by rw[k.out _ rfl,Ag rfl];exact(h.at a).drew b,(As.refl _ _).drewN b,l.out⟩
  ·have C:(j !=(kind:Int))=true:=by simpa using d
   have v:Hid (¬j=(kind:Int)):=d;clear d;go_enter func194,ntmps194;go_wp2_with(first|(go_at_call 208;refine o.mono ?_;rintro c B⟨rfl,b,i⟩;obtain rfl:=i)|(go_at_call 98;refine(p _).mono ?_;rintro c E⟨rfl,x,z⟩));go_ret;refine⟨_,rfl,fun a=> ?_,((As.refl _ _).drewN b).trans z,l.out⟩;rw[k.out _ rfl,Ae v.out];have c:AI T 6 s=stop T 6 (Ad T s).pos:=by simp[AI,stop,q]
   rw[<-c];exact x
theorem AcT(h:RW O U cap T m w s)(d:s.code≠0)(c:Int):
 Ah 209 #[Al O,Aa c] w fun a X=>a=.returned (Aa 0)/\X=w:=by
 have b:=h.mode_;have e:=h.fault;have f:((s.code:Int) !=0)=true:=by simp;omega
 cases m
 all_goals
  simp only[CU] at b;go_enter func209,ntmps209;go_wp2;go_ret;exact⟨rfl,rfl⟩
theorem AcU(h:RW O U cap T none w s)(c:Int):
 Ah 209 #[Al O,Aa c] w fun a X=>a=.returned (Aa 0)/\X=w:=by
 have b:=h.mode_;simp only[CU] at b;go_enter func209,ntmps209;go_wp2;go_ret;exact⟨rfl,rfl⟩
theorem QZ(h:RW O U cap T m w s){a:Nat}(b:a<T.length):w.cell? (Ac U (a*4+3))=some (.string (T.getD a default).text):=
 ((h.at a).curCells (s:={s with next:=a}) b).2.2.2
theorem R8{a:Nat}(b:a<T.length):T.drop a=T.getD a default::T.drop (a+1):=by rw[NN b,Dg,Bb b];rfl
theorem AcS(h:RW O U cap T (some n) w s)(x:s.code=0)(z:s.next+2<T.length):
 Ah 209 #[Al O,Aa s.next] w fun v X=>v=.returned (Aa (Ih T s:Nat))/\X=w:=by
 have B:=h.mode_;have y:=h.fault;have Q:=h.toks;have P:=h.size;rw[x] at y;simp only[CU] at B;have i:=fun c(A:c<T.length)=>QZ h A;have m:=i (s.next+2) z;have J:(s.next:Int)+2<T.length:=by omega
 cases a:Aj T AJ (Ab (Ab s)) with
 |true=>
  have k:Hid (Ih T s=0):=by show _=_;unfold Ih;rw[Ag a]
  have j:((T.getD (s.next+2) default).text.toList==([41]:List UInt8))=true:=by unfold Aj at a;rw[Ie] at a;exact a
  clear a i;generalize(T.getD (s.next+2) default)=e at*;go_enter func209,ntmps209;go_wp2;go_ret;exact⟨by rw[k.out];rfl,rfl⟩
 |false=>
  have k:Hid (Ih T s=CH (T.drop (s.next+2)) 0 1):=by show _=_;unfold Ih;rw[Ae (by rw[a];simp)]
  have j:((T.getD (s.next+2) default).text.toList==([41]:List UInt8))=false:=by unfold Aj at a;rw[Ie] at a;exact a
  clear a;have l:Hid (∀c,c<T.length->w.cell? (Ac U (c*4+3))=some (.string (T.getD c default).text)):=i;clear i;generalize(T.getD (s.next+2) default)=S at m j;go_enter func209,ntmps209;go_wp2;go_loop [5,6,7] (fun u o c=> ∃(g d b:Nat),u=Aa g/\o=Aa d/\c=Aa b/\b<=T.length/\g<=b/\d<=b/\Hid (CH (T.drop b) d g=Ih T s)) (fun _ _ c=>T.length -(intOf c).toNat)
  case atStart=>exact⟨1,0,s.next+2,rfl,rfl,by go_num,by omega,by omega,by omega,k.out.symm⟩
  case round=>
   obtain⟨g,d,b,rfl,rfl,rfl,K,I,N,f⟩:=hrel;by_cases r:b<T.length
   ·have C:=l.out b r;have q:=R8 r;have L:(b:Int)<T.length:=by omega
    rw[q] at f;clear l q m j;generalize(T.getD b default)=e at*;cases E:(e.text.toList==([40]:List UInt8))
    focus cases G:(e.text.toList==([91]:List UInt8))
    focus cases a:(e.text.toList==([41]:List UInt8))
    focus cases H:(e.text.toList==([93]:List UInt8))
    focus cases F:(e.text.toList==([44]:List UInt8))
    all_goals
     rcases Nat.eq_zero_or_pos d with rfl|D
     all_goals
      try have M: ¬d=0:=by omega
      try have R:((d:Int)==0)=false:=by simp;omega
      have p:=f.out;simp[CH,JL,Kg,FN,Ie, *] at p;have HS:Hid _:=p;clear p f;go_wp2
      first
       |(go_round
         case rel=>exact⟨_,_,b+1,by go_num,by go_num,by go_num,by omega,by omega,by omega,HS⟩
         case measure=>simp[intOf];omega)
       |(go_ret;exact⟨by rw[<-HS.out];rfl,rfl⟩)
   ·have t:Hid (Ih T s=g):=by show _=_;rw[<-f.out,Rk (by omega)];rfl
    clear f l m j;go_wp2;go_ret;exact⟨by rw[t.out];rfl,rfl⟩
theorem AgR(h:RW O U cap T none w s)(c:Int):
 Ah 193 #[Al O,Aa c] w fun a X=>a=.returned (.bool false)/\X=w:=by
 have b:=h.mode_;simp only[CU] at b;go_enter func193,ntmps193;go_wp2;go_ret;exact⟨rfl,rfl⟩
theorem AgP(h:RW O U cap T (some n) w s)(q:An T s):
 Ah 193 #[Al O,Aa s.next] w fun t X=>t=.returned (.bool (n.E.isRes (Ad T s).text))/\ ∃l,X=w.drewN l:=by
 have b:=h.env n rfl;have x:=h.mode_;have L:=h.toks;have K:=h.size;have F:(s.next:Int)<T.length:=by unfold An at q;omega
 obtain⟨_,_,_,B⟩:=h.curCells q;have u:=b.gcell;have G:=b.hcell;have j:=b.ins;have J:=b.glen;have d:=fun l=>GV (b.h.drew (w:=w) l) b.hlen (Ad T s).text;simp only[CU] at x;generalize(Ad T s).text=c at*;cases f:n.E.inside with
 |none=>
  have a:Hid (n.E.isRes c=false):=by show _=_;unfold Ao.isRes;rw[f]
  rw[f] at j;simp only[Es] at j;clear b f d;go_enter func193,ntmps193;go_wp2;go_ret;exact⟨by rw[a.out];rfl,0,rfl⟩
 |some i=>
  have v:=b.insOk i f;rw[f] at j;simp only[Es] at j;obtain⟨A,C,y,p⟩:=b.g.block (by omega);obtain⟨D,E,_⟩:=p i v;rw[y] at u;have I:(i:Int)<n.E.glob.length:=by omega
  have a:Hid (n.E.isRes c=(decide ((n.E.glob.getD i default).kind=3)&&((n.E.glob.getD i default).name.toList==c.toList)&&(A9 n.E.here c).isNone)):=by show _=_;unfold Ao.isRes;rw[f]
  generalize n.E.glob.getD i default=m at*;clear p b f;cases o:((m.kind:Int)==3) with
  |false=>
   have e:Hid (n.E.isRes c=false):=by show _=_;rw[a.out,RV (by simp at o;omega)];rfl
   clear a d;go_enter func193,ntmps193;go_wp2;go_quiet(fail);go_wp2;go_ret;exact⟨by rw[e.out];rfl,_,rfl⟩
  |true=>
   have k:decide (m.kind=3)=true:=by simp at o;simp;omega
   rw[k] at a;cases r:(m.name.toList==c.toList) with
   |false=>
    have e:Hid (n.E.isRes c=false):=by show _=_;rw[a.out,r];rfl
    clear a d;go_enter func193,ntmps193;go_wp2;go_quiet(fail);go_wp2;go_ret;exact⟨by rw[e.out];rfl,_,rfl⟩
   |true=>
    rw[r] at a;cases g:A9 n.E.here c with
    |none=>
     have e:Hid (n.E.isRes c=true):=by show _=_;rw[a.out,g];rfl
     rw[g] at d;simp only[Es] at d;clear a g k;go_enter func193,ntmps193;go_wp2;go_quiet(first|(go_at_call 152;exact Calls.quiet_of_same (d _)));go_wp2;go_ret;exact⟨by rw[e.out];rfl,_,rfl⟩
    |some z=>
     have e:Hid (n.E.isRes c=false):=by show _=_;rw[a.out,g];rfl
     rw[g] at d;simp only[Es] at d;have H: ¬((z:Int)<0):=by omega
     clear a g k;go_enter func193,ntmps193;go_wp2;go_quiet(first|(go_at_call 152;exact Calls.quiet_of_same (d _)));go_wp2;go_ret;exact⟨by rw[e.out];rfl,_,rfl⟩
end
theorem Tryz.infoInt:(prog.info? 3).map (fun a=>(a.zero,a.size,a.bytes))=some (some (Aa 0),1,8):=by kernel_rfl
section
variable{O U cap:Nat}{T:List Az}{m:Option Nm}{n:Nm}{w:World}{s:PS}{d:Int}{V:AU}
def Ry(O U cap:Nat)(T:List Az)(m:Option Nm)(a:PS)(w:World)(b:Ending)(X:World):Prop:=
 b=.returned (.tuple #[Aa 0,Aa (a.next:Int)])/\RW O U cap T m X a/\As O w X
theorem AdI{a:Ao}{c:Af}{kind:Nat}(f:kind=2\/kind=3)(h:(a.kindIx c).1=kind): ∃b:Nat,(a.kindIx c).2=(b:Int)/\b<a.glob.length/\a.args c=(a.glob.getD b default).args:=by
 unfold Ao.kindIx at*;cases e:A9 a.here c with
 |some _=>rw[e] at h;rcases f with rfl|rfl<;>simp at h
 |none=>
  rw[e] at h;cases d:A9 a.glob c with
  |none=>rw[d] at h;rcases f with rfl|rfl<;>simp at h
  |some b=>exact⟨b,rfl,Oh d,by unfold Ao.args;rw[d]⟩
theorem Aa7(a:AR T)(c:SM T V)(b:Av T s)(h:Aj T AJ s=true\/s.code≠0):(Ba T V s).2=Am T AJ s:=by
 rcases h with h|h
 ·unfold Ba Am;rw[h];rfl
 ·rw[(Li a c _ b).2 h,(Dq a Ai b).2 h]
theorem Vl(o:AR T)(hF:E8 O U cap T m 177 d V)(bn:AM T V)(ay:SM T V)(bq:Fx T Bx)(ae:Fx T AJ)
 (h:RW O U cap T m w s)(A:s.code=0)(a6:An T (Ab (Ab s)))(kind:Nat)(b0:kind=2\/kind=3)(an:Bool):
 Ah 197 #[Al O,Aa s.next,Aa d,.bool an,Aa kind] w (Ry O U cap T m (Ba T V (Fb T (Ax m) s kind (Ab (Ab s)))).2 w):=by
 have b1:=h.lt;have cp:=h.tlt;have co:=h.size;have bt:s.next+2<T.length:=a6;have a5:An T s:=by show s.next<T.length;omega
 have ar:=fun x b(l:RW O U cap T m x b)=>Ht l an;have bo:=ND h a5 A kind;have B:=(Tu o (Ax m) s kind a6).1;have X:=OY (T:=T) (Ax m) s kind (fun h=>absurd A h:Av T (Ab (Ab s)))
 have S:At (Fb T (Ax m) s kind (Ab (Ab s))) ((s.next:Int)+2):=by
  unfold Fb
  repeat' split
  all_goals(intro y;first|(simp[stop] at y;done)|(show _=((s.next+1+1:Nat):Int);omega))
 obtain⟨a,y⟩: ∃a,Fb T (Ax m) s kind (Ab (Ab s))=a:=⟨_,rfl⟩;have Y:Hid (Fb T (Ax m) s kind (Ab (Ab s))=a):=y;rw[y] at B X S⊢;have ce:a.next<T.length:=B;have z:=fun x(l:RW O U cap T m x a)=>D3 o l B X ((s.next:Int)+2) S AJ ae;obtain⟨k,ad⟩: ∃k,Aj T AJ a=k:=⟨_,rfl⟩;have H:Hid (Aj T AJ a=k):=ad;rw[ad] at z;clear y ad;go_enter func197,ntmps197;go_upto_region 3 with(go_at_call 194;refine bo.mono ?_;rintro t G⟨cr,rfl,P,W,f⟩);obtain u|⟨n,u⟩:m=none\/ ∃n,m=some n:=by cases m<;>simp
 focus
  have g:Hid (m=none):=u;have i: ∀c,RW O U cap T none G {s with next:=c}:=fun c=>by have:=P c;rw[g.out] at this;exact this
  have e:RW O U cap T m G a:=by rw[<-Y.out,g.out];exact i (s.next+2)
  have r:=(i 0).mode_;simp only[CU] at r;have C:=W;clear u;go_upto_block 0 with(first|(go_at_call 209;refine Aq (AcU (i 0) _) ?_)|(go_at_call 94;refine Aq (z _ e) ?_))
 rotate_left
 focus
  have g:Hid (m=some n):=u;have ak:=f n u;clear f u;by_cases f:(n.E.kindIx (Ad T s).text).1=kind
  focus
   obtain⟨v,a8,p,a0⟩:=AdI b0 f;obtain rfl:=ak.trans a8;have i: ∀c,RW O U cap T (some n) G {s with next:=c}:=fun c=>by have:=P c;rw[g.out] at this;rw[show Cs T (Ax (some n)) s kind {s with next:=c}={s with next:=c} from Ag f] at this;exact this
   have r:=(i 0).mode_;simp only[CU] at r;have af:=(i 0).fault;rw[show({s with next:=0}:PS).code=0 from A] at af;have L:=(i 0).env n rfl;have cj:=L.glen;have ch:(v:Int)<n.E.glob.length:=by omega
   obtain⟨ca,cb,b2,a3⟩:=L.g.block (by omega);have bu:=L.gcell;rw[b2] at bu;obtain⟨_,_,bl⟩:=a3 v p;rw[<-a0] at bl;have M:=AcS (i s.next) A bt;have ap:Hid ((if Ih T s=n.E.args (Ad T s).text then Ab (Ab s) else stop T 7 (Ad T s).pos)=a):=by show _=_;rw[<-Y.out,g.out];exact(Ag f).symm
   generalize n.E.args (Ad T s).text=bh at*;generalize Ih T s=gt at*;clear L a3 a0 f a8 ak;by_cases ai:gt=bh
   focus
    subst ai;have e:RW O U cap T m G a:=by rw[<-ap.out,Ag rfl,g.out];exact i (s.next+2)
    have C:=W;go_upto_block 0 with(first|(go_at_call 209;refine Aq M ?_)|(go_at_call 94;refine Aq (z _ e) ?_))
   rotate_left
   focus
    have cn:((gt:Int) !=(bh:Int))=true:=by simp;omega
    have az:=H8 (s:=s) (i s.next) a5 7 s.next (fun _=>rfl);rw[show AI T 7 s=a by rw[<-ap.out,Ae ai];simp[AI,stop,A],<-g.out] at az;clear ai;go_upto_block 0 with(first|(go_at_call 209;refine Aq M ?_)|(go_at_call 98;refine az.mono ?_;rintro t cu⟨rfl,e,bx⟩;have C:=W.trans bx)|(go_at_call 94;refine Aq (z _ e) ?_))
  rotate_left 2
  focus
   have Z:stop T 6 (Ad T s).pos=a:=by rw[<-Y.out,g.out];exact(Ae f).symm
   have e:RW O U cap T m G a:=by have:=P 0;rw[g.out] at this⊢;rw[show Cs T (Ax (some n)) s kind {s with next:=0}=a from(Ae f).trans Z] at this;exact this
   have r:=e.mode_;rw[g.out] at r;simp only[CU] at r;have af:=e.fault;have al:a.code=6:=by rw[<-Z];rfl
   rw[al] at af;have M:=AcT e (by rw[al];decide) (s.next:Int);have C:=W;clear Z f al ak;go_upto_block 0 with(first|(go_at_call 209;refine Aq M ?_)|(go_at_call 94;refine Aq (z _ e) ?_))
 all_goals
  clear P r;by_cases R:k=true\/a.code≠0
  ·have I:Hid ((Ba T V a).2=Am T AJ a):=Aa7 o ay X (by rw[H.out];exact R);have aa:=fun x(l:RW O U cap T m x a)=>FD o l B X ((s.next:Int)+2) S AJ ae
   have a4:k=false->((a.code:Int)==0)=false:=fun t=>by
    rcases R with h|h
    ·rw[t] at h;cases h
    ·simp;omega
   generalize Am T AJ a=b8 at*;clear R H;cases k
   all_goals
    try have cc:=a4 rfl
    clear a4;go_wp2_with fail;go_loopw [15,16,18,19,20] (fun aq c _ _ _ wr=>c=Aa ((s.next:Int)+2)/\RW O U cap T m wr a/\As O w wr) (fun _ _ _ _ _ _=>0)
    case atStart=>exact⟨rfl,e,C⟩
    case round=>
     obtain⟨rfl,au,f⟩:=hrel;have cd:=au.fault;go_wp2_with(first|(go_at_call 123;refine(aa _ au).mono ?_;rintro t ct⟨rfl,av,bw⟩)|(go_at_call 178;refine Aq (ar _ _ av) ?_));go_ret2;unfold Ry;rw[I.out];exact⟨rfl,av,f.trans bw⟩
  ·obtain⟨bp,a1⟩:k=false/\a.code=0:=by cases k<;>simp_all
   subst bp;obtain⟨b7,bv,b4,b5,b6⟩:=info_parts Tryz.infoInt;have I:Hid ((Ba T V a).2=Am T AJ (Bj T V T.length [(V a).1] (V a).2).2):=by show _=_;unfold Ba;rw[H.out];rfl
   have bb:=S a1;clear H R;go_wp2_with fail;go_loopw [15,16,18,19,20] (fun aq c _ _ _ wr=> ∃(b:PS)(j:List Value)(K:List Ex)(F:Nat),c=Aa (b.next:Int)/\wr.ownsRow w.heap.size 3 1 aq j.length j/\RW O U cap T m wr b/\As O w wr/\An T b/\b.code=0/\T.length<=b.next+F/\j.length<=b.next/\Hid (Bj T V F (K++[(V b).1]) (V b).2=Bj T V T.length [(V a).1] (V a).2)) (fun _ c _ _ _ _=>T.length -(intOf c).toNat)
   case atStart=>exact⟨a,[],[],T.length,by rw[<-bb],World.ownsRow_nil _ _ _ _,e,C,B,a1,by omega,by simp,rfl⟩
   case round=>
    obtain⟨b,j,K,F,rfl,bc,l,p,ag,Q,cm,cq,J⟩:=hrel;have cf:b.next<T.length:=ag;have be:Av T b:=fun h=>absurd Q h;have br:=l.fault;rw[Q] at br;have D:=bn b ag;have am:=ay b be;have cl:=D.2;have ck:(V b).2.next<T.length:=D.1
    have ba:=bc.lt;have ci:=p.size;have bm:=hF wr b _ an l ag be (fun _=>rfl);clear bb
    go_upto_region 15 with(first
     |(go_at_call 177;refine bm.mono ?_;rintro t cv⟨v4,bg,rfl,ac,aw,aj⟩)
     |(at_builtin;have _h:=aw;refine Gw rfl _ _ 23 rfl w.heap.size 3 b7 _ 1 8 underlying23 bv b4 b5 b6 rfl (by decide) _ j.length j rfl ((DY bc aj b1).alloc _) (Ac _ 0) 1 1 [Aa v4] rfl rfl (cell_one_new _ _ _) ?_ ?_ ?_ ?_ ?_
       ·intro cs bf;simp at bf;subst bf;rfl
       ·unfold maxLen;omega
       ·omega
       ·have:=aj.size;simp;omega
       intro b9 ao bd ah b3;have ab:RW O U cap T m ao (V b).2:=RW.grown h (aw.alloc _) ah (fun v p=>(ba v p).1);have a9:As O w ao:=He ((p.trans aj).alloc _) ah (fun v p=>(ba v p).1);have bk:Aside (ao.ownsRow w.heap.size 3 1 b9 (j.length+1) (j++[Aa v4])):=bd
       clear bd ah b3))
    have N:=D3 o ab D.1 am.1 bg ac.1 Bx bq;cases q:Aj T Bx (V b).2 with
    |true=>
     have a7:=AD o D.1 q Ai;have cg:(V b).2.next+1<T.length:=a7
     have a2:=Cp o am.1 Ai q;obtain rfl:=ac.1 a2;rw[q] at N;obtain⟨E,rfl⟩: ∃E,F=E+1:=⟨F -1,by omega⟩;have bj:Hid (Bj T V E ((K++[(V b).1])++[(V (Ab (V b).2)).1]) (V (Ab (V b).2)).2=Bj T V T.length [(V a).1] (V a).2):=by show _=_;rw[<-J.out,RG q]
     clear J q Q;go_wp2_with(go_at_call 94;refine Aq N ?_)
     go_roundw
     case rel=>exact⟨Ab (V b).2,j++[Aa v4],K++[(V b).1],E,by show _=Value.int .i64 (((V b).2.next+1:Nat):Int);go_num,by rw[AG];exact bk.out,ab.at _,a9,a7,a2,by show T.length<=(V b).2.next+1+E;omega,by rw[AG];show j.length+1<=(V b).2.next+1;omega,bj⟩
     case measure=>simp[intOf];omega
    |false=>
     rw[q] at N;have aa:=FD o ab D.1 am.1 bg ac.1 AJ ae;have bi:Hid ((Ba T V a).2=Am T AJ (V b).2):=by show _=_;rw[I.out,<-J.out,Ps q]
     generalize Am T AJ (V b).2=b8 at*;clear J q I Q;go_wp2_with(first|(go_at_call 94;refine Aq N ?_)|(go_at_call 123;refine aa.mono ?_;rintro t cw⟨rfl,ax,bz⟩)|(go_at_call 178;refine Aq (ar _ _ ax) ?_));go_ret2;unfold Ry;rw[bi.out];exact⟨rfl,ax,a9.trans bz⟩
end
def JG:List (List UInt8):=[[61],[35],[60],[62],[42],[47],[37],[43],[45],[97,110,100],[111,114],[44],[41],[40],[91],[93],[110,111,116],[58,61],[105,102],[119,104,105,108,101],[98,101,103,105,110],[119,114,105,116,101],[114,101,97,100],[116,104,101,110],[101,108,115,101],[100,111],[101,110,100],[59],[118,97,114],[112,114,111,99],[102,117,110,99],[46]]
def Cj(T:List Az):Prop:= ∀a∈JG,Fx T (bs a)
theorem DU{T:List Az}{a b:List UInt8}{s:PS}(h:Aj T (bs a) s=true)(c:(a==b)=false):Aj T (bs b) s=false:=by unfold Aj at*;rw[Ie] at*;have:=(Lib.bytes_beq_iff _ _).1 (by rw[Ie];exact h:((Ad T s).text.toList==(bs a).toList)=true);rw[this,Ie];exact c
theorem RI{T:List Az}{s a:PS}(b:An T a)(h:s.next<=a.next):Ec T s a a.next:=
 ⟨fun _=>rfl,fun _=>⟨by omega,by have:a.next<T.length:=b;omega⟩⟩
theorem Abd{T:List Az}{s:PS}{b:Int}(a:s.code≠0):Ec T s s b:=⟨fun h=>absurd h a,fun h=>absurd h a⟩
theorem N2{T:List Az}{m:Option Ao}{d s:PS}{c:Nat}{a:Int}(h:At s a):At (Cs T m d c s) a:=by
 unfold Cs;split
 ·exact h
 ·split
  ·exact h
  ·intro b;simp[stop] at b
section
variable{O U cap:Nat}{T:List Az}{m:Option Nm}{n:Nm}{w:World}{s:PS}{d:Int}{V:AU}
theorem RW.adv(h:RW O U cap T m w s):RW O U cap T m w (Ab s):=h.at _
def Mw(O U cap:Nat)(T:List Az)(m:Option Nm)(s b:PS)(w:World)(c:Ending)(X:World):Prop:=
 ∃d a:Int,c=.returned (.tuple #[Aa d,Aa a])/\Ec T s b a/\RW O U cap T m X b/\As O w X
theorem Ae7(c:AR T)(hF:E8 O U cap T m 177 (d+1) V)(A:AM T V)(M:SM T V)(k:Cj T)
 (aw:0<=d)(ax:d<=14)(h:RW O U cap T m w s)(l:An T s)(j:s.code=0)(P:AN T .name s=true)(v:Bool):
 Ah 228 #[Al O,Aa s.next,Aa d,.bool v] w (Mw O U cap T m s (Do T (Ax m) V s).2 w):=by
 have ab:=k [40] (by decide);have ac:=k [91] (by decide);have ad:=k [93] (by decide);have a0:=h.size;have ay:s.next<T.length:=l;have Q:=h.mode_;have o:=EZ c l P (by decide);have az:s.next+1<T.length:=o;have S:Av T (Ab s):=A4 j;have C:At (Ab s) ((s.next:Int)+1):=fun _=>by show _=((s.next+1:Nat):Int);omega
 have H:=D3 c h.adv o S ((s.next:Int)+1) C Bl ab;have I:=D3 c h.adv o S ((s.next:Int)+1) C BL ac;have z:=fun a ar(g:RW O U cap T m a ar)=>Ht g v;have u:=XY c (Ax m) A l P;have X:Aj T Bl (Ab s)=true->Aj T BL (Ab s)=false:=fun h=>DU h (by decide);have ae:=fun F=>AD c o (f:=Bl) F Ai;have af:=fun F=>AD c o (f:=BL) F Ai;obtain⟨b,t⟩: ∃b,Do T (Ax m) V s=b:=⟨_,rfl⟩;rw[t] at u⊢;unfold Do at t;generalize Aj T Bl (Ab s)=Z at*;generalize Aj T BL (Ab s)=aa at*;have f:Hid (_=b):=t;clear t;have y:Hid (Ec T s b.2 b.2.next):=RI u.1 u.2;clear u;go_enter func228,ntmps228;go_upto_region 2 with(go_at_call 94;refine Aq I ?_);go_upto_region 3 with(go_at_call 94;refine Aq H ?_);clear H I;cases Z with
 |true=>
  obtain rfl:=X rfl;have J:=Vl c hF A M (k [44] (by decide)) (k [41] (by decide)) h j (ae rfl) 3 (.inr rfl) v;rw[show(Ba T V (Fb T (Ax m) s 3 (Ab (Ab s)))).2=b.2 from C4 Prod.snd f.out] at J;go_wp2_with(go_at_call 197;refine J.mono ?_;rintro q av⟨rfl,B,D⟩);go_ret2;exact⟨_,_,rfl,y.out,B,D⟩
 |false=>
  clear X;cases aa with
  |true=>
   have aj:=af rfl;have ao:Av T (Ab (Ab s)):=fun h=>absurd j h;have Y:Hid (b.2=Am T Cn (V (Cs T (Ax m) s 1 (Ab (Ab s)))).2):=by show _=_;rw[<-f.out];rfl
   have N:=(LU c (Ax m) s 1 aj).1;have R:=KB (Ax m) s 1 ao;have ak:At (Cs T (Ax m) s 1 (Ab (Ab s))) ((s.next:Int)+2):=N2 (fun _=>by show _=((s.next+1+1:Nat):Int);omega);have e:=ND h l j 1;have ag: ∀a,(∀p,RW O U cap T m a (Cs T (Ax m) s 1 {s with next:=p}))->RW O U cap T m a (Cs T (Ax m) s 1 (Ab (Ab s))):=fun a e=>e (s.next+2);clear f;generalize Cs T (Ax m) s 1 (Ab (Ab s))=x at*;have an:=A _ N;have ap:=M _ R;have ah:=fun a(g:RW O U cap T m a x)=>hF a x _ v g N R ak;have K:=fun a W(al:At (V x).2 W)(g:RW O U cap T m a (V x).2)=>FD c g an.1 ap.1 W al Cn ad;rw[<-Y.out] at K;go_wp2_with(first|(go_at_call 194;refine e.mono ?_;rintro q au⟨aq,rfl,i,E,_⟩;have r:=ag _ i;clear i)|(go_at_call 177;refine(ah _ r).mono ?_;rintro q av⟨a2,a1,rfl,ai,B,D⟩)|(go_at_call 123;refine(K _ _ ai.1 B).mono ?_;rintro q a3⟨rfl,L,am⟩)|(go_at_call 178;refine Aq (z _ _ L) ?_));go_ret2;exact⟨_,_,rfl,y.out,L,(E.trans D).trans am⟩
  |false=>
   have G:Hid (Ec T s b.2 ((s.next:Int)+1)):=by show Ec _ _ _ _;rw[<-f.out];exact⟨N2 C,fun _=>⟨by omega,by omega⟩⟩
   have e:=ND h l j 0;have HQ:Hid (∀a,(∀p,RW O U cap T m a (Cs T (Ax m) s 0 {s with next:=p}))->RW O U cap T m a b.2):=fun a e=>by rw[<-f.out];exact e (s.next+1)
   clear y;cases m with
   |none=>
    simp only[CU] at Q;clear e;go_wp2_with(go_at_call 178;refine Aq (z _ _ h) ?_);go_ret2;exact⟨_,_,rfl,G.out,HQ.out _ fun p=>h.at p,As.refl _ _⟩
   |some n=>
    simp only[CU] at Q;go_wp2_with(first|(go_at_call 194;refine e.mono ?_;rintro q au⟨aq,rfl,i,E,_⟩;have r:=HQ.out _ i;clear i)|(go_at_call 178;refine Aq (z _ _ r) ?_));go_ret2;exact⟨_,_,rfl,G.out,r,E⟩
theorem VQ(h:RW O U cap T m w s)(f:An T s)(a:s.code≠0)(g:Int)(i:Bool):
 Ah 225 #[Al O,Aa g,Aa d,.bool i] w (Mw O U cap T m s s w):=by
 have j:=h.fault;have k:((s.code:Int) !=0)=true:=by simp;omega
 have e:=Lc h f;have c:Hid (∀b,Ec T s s b):=fun b=>Abd a;clear a;go_enter func225,ntmps225;go_wp2_with(go_at_call 126;refine Aq e ?_);go_ret2;exact⟨_,_,rfl,c.out _,h,As.refl _ _⟩
theorem Agr(e:AR T)(h:RW O U cap T m w s)(a:An T s)(g:s.code=0)(i:d=15)(l:Bool):
 Ah 225 #[Al O,Aa s.next,Aa d,.bool l] w (Mw O U cap T m s (AI T 5 s) w):=by
 have j:=h.fault;rw[g] at j;have f:=H8 h a 5 s.next (fun _=>rfl);have b:Hid (Ec T s (AI T 5 s) (AI T 5 s).next):=RI (Gh e 5 s) (FO 5 a);subst i;go_enter func225,ntmps225;go_wp2_with(go_at_call 98;refine f.mono ?_;rintro n o⟨rfl,c,k⟩);go_ret2;exact⟨_,_,rfl,b.out,c,k⟩
theorem Pc(a:TK):(a.r==1)=decide (a=.name):=by cases a<;>rfl
theorem YH(a:TK):(a.r==2)=decide (a=.number):=by cases a<;>rfl
theorem Acr(g:AR T)(a:Nat)(hF:E8 O U cap T m 225 (d+1) (Bk T (Ax m) a))(S:E8 O U cap T m 177 (d+1) (BA T (Ax m) a))(H:Cj T)
 (ao:0<=d)(ap:d<=14)(h:RW O U cap T m w s)(i:An T s)(v:s.code=0)(x:Bool):
 Ah 225 #[Al O,Aa s.next,Aa d,.bool x] w (Mw O U cap T m s (Bk T (Ax m) (a+1) s).2 w):=by
 have aq:=h.fault;rw[v] at aq;have a7:=h.size;have a8:=h.toks;have a5:s.next<T.length:=i;have a6:(s.next:Int)<T.length:=by omega
 have ax:Av T s:=fun h=>absurd v h;obtain⟨A,a2,_,_⟩:=h.curCells i;have N:=Hw g (Ax m) a;have Q:=Hy g (Ax m) a;have a4:=Gm g (Ax m) a;have n:=Gm g (Ax m) (a+1) s i;have F:=Pc (Ad T s).kind;have K:=YH (Ad T s).kind;cases e:AN T .number s with
 |true=>
  have f:Hid ((Bk T (Ax m) (a+1) s).2=Ab s):=by show _=_;rw[Bk,Ag e];simp[BV,e]
  have I:=EZ g i e (by decide);have p:(Ad T s).kind=.number:=by simpa[AN] using e
  rw[p] at A;simp only[TK.r] at A;have y:Hid (Ec T s (Ab s) ((s.next:Int)+1)):=⟨fun _=>by show _=((s.next+1:Nat):Int);omega,fun _=>⟨by omega,by omega⟩⟩;clear e p F K n;go_enter func225,ntmps225;go_wp2;go_ret2;unfold Mw;rw[f.out];exact⟨_,_,rfl,y.out,h.at _,As.refl _ _⟩
 |false=>
  have ai:((Ad T s).kind.r==2)=false:=by rw[K];simpa[AN] using e
  clear K;cases l:AN T .name s with
  |true=>
   have f:Hid ((Bk T (Ax m) (a+1) s).2=(Do T (Ax m) (BA T (Ax m) a) s).2):=by show _=_;rw[Bk,Ae (by rw[e];simp),Ag l];rfl
   have aj:=Ae7 g S N Q H ao ap h i v l x;have p:(Ad T s).kind=.name:=by simpa[AN] using l
   rw[p] at A;simp only[TK.r] at A;clear e l p F n ai;go_enter func225,ntmps225;go_wp2_with(go_at_call 228;refine aj.mono ?_;rintro c bb⟨v1,a9,rfl,an,al,au⟩);go_ret2;unfold Mw;rw[f.out];exact⟨_,_,rfl,an,al,au⟩
  |false=>
   have a3:((Ad T s).kind.r==1)=false:=by rw[F];simpa[AN] using l
   clear F;generalize(Ad T s).kind.r=ba at*;have J:At (Ab s) ((s.next:Int)+1):=fun _=>by show _=((s.next+1:Nat):Int);omega
   have E:Av T (Ab s):=A4 v;have C:=fun q G=>D3 g h i ax s.next (fun _=>rfl) (bs q) (H q G);have W:=C [40] (by decide);have X:=C [45] (by decide);have Y:=C [110,111,116] (by decide);have B:=fun q(G:q≠[]) az=>AD g i (f:=bs q) az (I6 _ G);have af:=B [40] (by simp);have ag:=B [45] (by simp);have ah:=B [110,111,116] (by simp);obtain⟨b,D⟩: ∃b,Bk T (Ax m) (a+1) s=b:=⟨_,rfl⟩;rw[D] at n⊢;rw[Bk,Ae (by rw[e];simp),Ae (by rw[l];simp)] at D;generalize Aj T Bl s=ac at*;generalize Aj T FA s=ad at*;generalize Aj T GP s=ae at*;have z:Hid (_=b):=D;have y:Hid (Ec T s b.2 b.2.next):=RI n.1 n.2;clear D n C B e l;have M:Hid (∀o,Ec T (Ab s) (Bk T (Ax m) a (Ab s)).2 o->(Bk T (Ax m) a (Ab s)).2=b.2->Ec T s b.2 o):=fun o V c=>by rw[<-c];exact⟨V.1,fun _=>by have:=V.2 v;have c:(Ab s).next=s.next+1:=rfl;omega⟩
   go_enter func225,ntmps225;go_upto_region 11 with(go_at_call 94;refine Aq W ?_);go_upto_region 12 with(go_at_call 94;refine Aq X ?_);go_upto_region 13 with(go_at_call 94;refine Aq Y ?_);clear W X Y;cases ac with
   |true=>
    have I:=af rfl;have aw:=N _ I;have ay:=Q _ E;have t:=S w (Ab s) _ x (h.at _) I E J;have P:=fun ab o(ar:At (BA T (Ax m) a (Ab s)).2 o)(ak:RW O U cap T m ab (BA T (Ax m) a (Ab s)).2)=>FD g ak aw.1 ay.1 o ar AJ (H [41] (by decide));rw[show Am T AJ (BA T (Ax m) a (Ab s)).2=b.2 by rw[<-z.out];rfl] at P;go_wp2_with(first|(go_at_call 177;refine t.mono ?_;rintro c L⟨aa,Z,rfl,u,j,k⟩)|(go_at_call 123;refine(P _ _ u.1 j).mono ?_;rintro c bc⟨rfl,am,av⟩));go_ret2;exact⟨_,_,rfl,y.out,am,k.trans av⟩
   |false=>
    cases ad with
    |true=>
     have t:=hF w (Ab s) _ x (h.at _) (ag rfl) E J;have f:Hid ((Bk T (Ax m) a (Ab s)).2=b.2):=by show _=_;rw[<-z.out];rfl
     go_wp2_with(first|(go_at_call 225;refine t.mono ?_;rintro c L⟨aa,Z,rfl,u,j,k⟩)|(go_at_call 222;refine(TO _ _).mono ?_;rintro c a1⟨a0,rfl,r⟩;obtain rfl:=r.symm;clear r));go_ret2;exact⟨_,_,rfl,M.out _ u f.out,by rw[<-f.out];exact j,k⟩
    |false=>
     cases ae with
     |true=>
      have t:=hF w (Ab s) _ x (h.at _) (ah rfl) E J;have f:Hid ((Bk T (Ax m) a (Ab s)).2=b.2):=by show _=_;rw[<-z.out];rfl
      go_wp2_with(first|(go_at_call 225;refine t.mono ?_;rintro c L⟨aa,Z,rfl,u,j,k⟩)|(go_at_call 76;refine(Aac _ _).mono ?_;rintro c a1⟨a0,rfl,r⟩;obtain rfl:=r.symm;clear r));go_ret2;exact⟨_,_,rfl,M.out _ u f.out,by rw[<-f.out];exact j,k⟩
     |false=>
      have R:=H8 h i 4 s.next (fun _=>rfl);rw[show AI T 4 s=b.2 by rw[<-z.out];rfl] at R;go_wp2_with(go_at_call 98;refine R.mono ?_;rintro c L⟨rfl,j,k⟩);go_ret2;exact⟨_,_,rfl,y.out,j,k⟩
theorem AcI(c:Cj T):(∀a∈Db,Fx T a)/\(∀a∈C9,Fx T a)/\(∀a∈C5,Fx T a):=by
 refine⟨fun a b=> ?_,fun a b=> ?_,fun a b=> ?_⟩
 ·simp[Db] at b;rcases b with rfl|rfl|rfl<;>exact c _ (by decide)
 ·simp[C9] at b;rcases b with rfl|rfl<;>exact c _ (by decide)
 ·simp[C5] at b;rcases b with rfl|rfl|rfl|rfl<;>exact c _ (by decide)
theorem VN(a:AR T)(e:Cj T)(hF:E8 O U cap T m 225 d V)(b:AM T V)(c:SM T V):E8 O U cap T m 177 d (EA T V):=by obtain⟨j,k,l⟩:=AcI e;have f:=Agw a hF b c j;have g:=Agv a f (Kl a b) (Kw a c) k;have h:=Agx a g (Kk a b) (Lj a c) l;have i:=Agl a h (Km a b) (Kx a c) (e _ (by decide));exact Agq a i (Ki a b) (Ku a c) (e _ (by decide))
theorem YJ(b:AR T)(g:Cj T): ∀(c:Nat)(d:Int),d+c=15->0<=d->E8 O U cap T m 225 d (Bk T (Ax m) c)
 |0,d,p,l=>fun w s k f h e j i=>by
  by_cases a:s.code=0
  ·obtain rfl:=i a;exact Agr b h e a (by omega) f
  ·rw[(Fi b (Ax m) 0 s j).2 a];exact VQ h e a k f
 |c+1,d,p,l=>fun w s k f h e j i=>by
  have n:=YJ b g c (d+1) (by omega) (by omega);have o:=VN b g n (Gm b (Ax m) c) (Fi b (Ax m) c);by_cases a:s.code=0
  ·obtain rfl:=i a;exact Acr b c n o g l (by omega) h e a f
  ·rw[(Fi b (Ax m) (c+1) s j).2 a];exact VQ h e a k f
theorem Agp(b:AR T)(c:Cj T)(a:Nat)(d:Int)(f:d+a=15)(e:0<=d):E8 O U cap T m 177 d (BA T (Ax m) a):=
 VN b c (YJ b c a d f e) (Gm b (Ax m) a) (Fi b (Ax m) a)
end
