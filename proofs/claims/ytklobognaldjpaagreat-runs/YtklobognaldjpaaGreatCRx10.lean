/- The reference's walk as it runs: terms. The reference's walk -/
import Derived.Test.YtklobognaldjpaaGreatCRx6
import Derived.Deep.QuietTactic
import Derived.BigQuiet
set_option maxRecDepth 1000000
set_option maxHeartbeats 2000000
namespace Go.Proofs.YtklobognaldjpaaGreat
open Go.Proofs.Tryz
open Go.RowKit
theorem Ae6{a b:Int}(c:VB a)(d:VB b): -4611686018427387904<=a*b/\a*b<=4611686018427387904:=by
 unfold VB at c d;have h:(a*b).natAbs<=2147483648*2147483648:=by rw[Int.natAbs_mul];exact Nat.mul_le_mul (by omega) (by omega)
 omega
theorem AbZ{a b:Int}(c:VB a):(-2147483648<=a.tdiv b/\a.tdiv b<=2147483648)/\(-2147483648<=a.tmod b/\a.tmod b<=2147483648):=by
 unfold VB at c;have d:(a.tdiv b).natAbs<=a.natAbs:=by rw[Int.natAbs_tdiv];exact Nat.div_le_self _ _
 have e:(a.tmod b).natAbs<=a.natAbs:=by rw[Int.natAbs_tmod];exact Nat.mod_le _ _
 omega
section
variable{E:Ao}{L:Prop}{O Y cap B:Nat}{T:List Az}{c:Nat}{U:Int}{vg:Value}{G:List GC}{vh:Value}{H:List GC}{call:Dr}{d:Int}{X:AU}
theorem Acd{l r:Ex}{S:RS}{live:Bool}{v g:Int}{op:Af}(h:BE op [97,110,100]=false)(i:BE op [111,114]=false)(V:live=true->(AC call live l S).2.stop=none->v=(AC call live l S).1)
 (a:live=true->(AC call live r (AC call live l S).2).2.stop=none->g=(AC call live r (AC call live l S).2).1):
 ((live&& !(AC call live r (AC call live l S).2).2.stop.isSome)=false->(AC call live (.bin op l r) S).2=(AC call live r (AC call live l S).2).2)/\((live&& !(AC call live r (AC call live l S).2).2.stop.isSome)=true->GH op v g=none->(AC call live (.bin op l r) S).2=(AC call live r (AC call live l S).2).2.fail 10):=by
 cases live with
 |false=>simp[AC]
 |true=>
  cases d:S.stop with
  |some f=>
   have e: ∀b,AC call true b S=(0,S):=fun b=>Ez (by rw[d];rfl);rw[e,e];dsimp only;rw[e];simp[d]
  |none=>
   rw[FM d,FM d] at*;have V:=V rfl;have a:=a rfl
   have j:AB call (.bin op l r) S=if(AB call l S).2.stop.isSome then(0,(AB call l S).2) else(if(AB call r (AB call l S).2).2.stop.isSome then(0,(AB call r (AB call l S).2).2) else match GH op (AB call l S).1 (AB call r (AB call l S).2).1 with
    |some v=>(v,(AB call r (AB call l S).2).2)
    |none=>(0,(AB call r (AB call l S).2).2.fail 10)):=by
    rw[AB,h,i,Ae NH,Ae NH];rfl
   rw[j];generalize AB call l S=p at*;cases c:p.2.stop with
   |some f=>
    rw[Ez (by rw[c];rfl)];simp[c]
   |none=>
    rw[FM c] at*;have V:=V c;subst V;simp only[KO,Jv,ID];cases k:(AB call r p.2).2.stop with
    |some f=>simp
    |none=>
     have a:=a k;simp only[KO,Jv,ID];refine⟨fun b=>by simp at b,fun _ m=> ?_⟩;rw[<-a,m]
theorem AiL(bg:AR T)(hF:XK E L O Y cap B T c U vg G vh H call 225 d X)(bf:AM T X)(ap:SM T X)(b6: ∀ai∈Db,Fx T ai):XK E L O Y cap B T c U vg G vh H call 221 d (BU T X Db):=by
 intro w J vo S s cm b h bn b8 bm bq bo be;subst b8;have cl:=h.siz;have bp:=bf s bn;have br:=ap s bq
 have am:Hid (∀(n:Nat)(l:Ex)(a:PS),Av T a->Bi T X Db n l a=BU T X Db s->a.code=0):=fun n l a b9 x=>by
  by_cases a8:a.code=0
  ·exact a8
  ·have:=((Kv bg ap BG.1 n l a b9).2 a8);rw[x] at this;rw[<-this];exact bm
 have a5:Hid (∀(n:Nat)(l:Ex)(a:PS),Bi T X Db n l a=BU T X Db s->AV E l=none):=fun n l a x=>Oy n l a (by rw[x];exact bo);have bj:(X s).2.code=0:=am.out T.length (X s).1 (X s).2 br.1 rfl;have ao:=hF w J vo S s _ b h bn rfl bj bq (a5.out T.length (X s).1 (X s).2 rfl) be;have a6:Hid (∀(k:World)(z p:Value)(I:RS)(a:PS),RA O Y cap B T c U vg G vh H k z p I->An T a->RA O Y cap B T c U vg G vh H (k.alloc (.cells Hp 9)) z p I/\Ah 217 #[Al O,Aa (a.next:Nat),Ar k.heap.size 3 3] (k.alloc (.cells Hp 9)) fun x Z=>x=.returned (.string (Ek T Db a))/\Z=k.alloc (.cells Hp 9)):=fun k z p I a bz b7=>by have a9:=bz.below ((Below.refl _ _).alloc (AA _) (.cells Hp 9));exact⟨a9,Qv Db (by decide) (T8 k [42] [47] [37] 9) fun ai b5=>Dw a9 b7 rfl ai (b6 ai b5)⟩
 clear h bm bj bo;unfold XP at ao;go_enter func221,ntmps221;go_upto_region 2 with(go_at_call 225;refine ao.mono ?_;rintro x az⟨v1,rfl,b3,cc,a0⟩);obtain⟨ay,al,ba,bc⟩:=a0.out;obtain⟨bb,b1⟩:=a6.out az ay al _ (X s).2 ba bp.1;have bx:Hid (RA O Y cap B T c U vg G vh H (az.alloc (.cells Hp 9)) ay al (AC call b (X s).1 S).2/\Kf O G H vo al w (az.alloc (.cells Hp 9))):=⟨bb,bc.trans (Kf.of_par (As.of_below AP))⟩;clear ba bc a0 ao bb;go_wp2_with(go_at_call 217;refine Aq b1 ?_);go_loopw [10,11,12,13,14,15] (fun v ax op _ _ _ wr=> ∃(a:PS)(l:Ex)(n:Nat)(q:Int)(o:Af)(z p:Value),v=Aa q/\ax=Aa (a.next:Nat)/\op=.string o/\Hid (o=Ek T Db a)/\An T a/\Av T a/\T.length<=a.next+n/\VB q/\(b=true->(AC call b l S).2.stop=none->q=(AC call b l S).1)/\Hid (Bi T X Db n l a=BU T X Db s)/\Hid (RA O Y cap B T c U vg G vh H wr z p (AC call b l S).2/\Kf O G H vo p w wr)) (fun _ ax _ _ _ _ _=>T.length -(intOf ax).toNat)
 case atStart=>exact⟨(X s).2,(X s).1,T.length,v1,_,ay,al,rfl,rfl,rfl,rfl,bp.1,br.1,by omega,b3,cc,rfl,bx.out⟩
 case round=>
  obtain⟨a,l,n,q,o,z,p,rfl,rfl,rfl,R,ar,bt,ck,M,V,Q,af⟩:=hrel;have cg:a.next<T.length:=ar;have bk:=am.out n l a bt Q.out;cases y:CL T Db a with
  |true=>
   have au:=Le bg ar BG.1 y;have aw:Av T (Ab a):=A4 bk;have D:=bf (Ab a) au;have ab:=ap (Ab a) aw;have ch:(X (Ab a)).2.next<T.length:=D.1
   have ci:a.next+1<=(X (Ab a)).2.next:=D.2
   obtain⟨t,rfl⟩: ∃t,n=t+1:=⟨n -1,by omega⟩;have u:Hid (Bi T X Db t (.bin (Ad T a).text l (X (Ab a)).1) (X (Ab a)).2=BU T X Db s):=by show _=_;rw[<-Q.out,Ka y]
   have bl:=am.out t _ _ ab.1 u.out;have aq:=hF wr z p _ (Ab a) ((a.next:Int)+1) b af.out.1 au (by show _=((a.next+1:Nat):Int);omega) bl aw (Qg (a5.out t _ _ u.out)) be;have r:=TJ y;rw[<-R.out] at r;have av:o=S7\/o=S9\/o=S6:=by have:=Nn y;rw[<-R.out] at this;simpa[Db] using this
   have aj:=fun(k:World)(g e:Value)(a7:RS)(W:RA O Y cap B T c U vg G vh H k g e a7)=>a6.out k g e a7 (X (Ab a)).2 W D.1;have a4:Hid (Kf O G H vo p w wr):=af.out.2;unfold XP at aq;have b4:=M;unfold VB at b4;clear Q y bt bk bl au aw ar R;generalize(X (Ab a)).2=ak at*;generalize(X (Ab a)).1=f at*;rcases av with rfl|rfl|rfl;all_goals rw[Lz] at r
   all_goals simp only[bs]
   all_goals(
    go_upto_region 5 with(go_at_call 225;refine aq.mono ?_;rintro x i⟨ae,rfl,bh,ac,a1⟩);obtain⟨g,e,W,bd⟩:=a1.out;have K:=Hu W b;have ah:Hid (Kf O G H vo e w i):=a4.out.trans bd;have ag:Hid (RA O Y cap B T c U vg G vh H i g e (AC call b f (AC call b l S).2).2):=W;have bi:=bh;unfold VB at bi;have P:Hid (∀bv,GH (Ad T a).text q ae=some bv->_):=fun bv cd=>Sf (call:=call) (l:=l) (r:=f) (S:=S) (live:=b) (by unfold BE;rw[r];rfl) (by unfold BE;rw[r];rfl) cd V ac
    clear W bd a1 aq af a4 bh)
   ·obtain⟨j,C⟩:=aj i g e _ ag.out;have A:Hid _:=And.intro j (ah.out.trans (Kf.of_par (As.of_below ((Below.refl i.heap.size i).alloc (AA _) (.cells Hp 9)))));have cj: -4611686018427387904<=q*ae/\q*ae<=4611686018427387904:=Ae6 M bi;clear j;go_wp2_with(first|(go_at_call 178;refine Aq K ?_)|(go_at_call 222;refine Aq (QJ _ _) ?_)|(go_at_call 217;refine Aq C ?_))
    go_roundw
    case rel=>
     have aa:=P.out _ (by unfold GH BE;rw[r];rfl);exact⟨ak,_,t,_,_,g,e,rfl,rfl,rfl,rfl,D.1,ab.1,by omega,Rb _,aa.2,u.out,by rw[aa.1];exact A.out⟩
    case measure=>simp[intOf];omega
   all_goals(
    have F:Hid _:=Acd (call:=call) (l:=l) (r:=f) (S:=S) (live:=b) (op:=(Ad T a).text) (by unfold BE;rw[r];rfl) (by unfold BE;rw[r];rfl) V ac;have cf:=AbZ (b:=ae) M;cases m:(b&& !(AC call b f (AC call b l S).2).2.stop.isSome)
    ·rw[m] at K;obtain⟨j,C⟩:=aj i g e _ ag.out;have A:Hid (RA O Y cap B T c U vg G vh H (i.alloc (.cells Hp 9)) g e (AC call b (.bin (Ad T a).text l f) S).2/\Kf O G H vo e w (i.alloc (.cells Hp 9))):=And.intro (by rw[F.out.1 m];exact j) (ah.out.trans (Kf.of_par (As.of_below ((Below.refl i.heap.size i).alloc (AA _) (.cells Hp 9)))));have an:Hid (b=true->(AC call b (.bin (Ad T a).text l f) S).2.stop=none->q=(AC call b (.bin (Ad T a).text l f) S).1):=fun ca N=>by rw[F.out.1 m] at N;rw[ca] at m N;rw[N] at m;simp at m
     clear j P F ac V;go_wp2_with(first|(go_at_call 178;refine Aq K ?_)|(go_at_call 217;refine Aq C ?_))
     go_roundw
     case rel=>exact⟨ak,_,t,_,_,g,e,rfl,rfl,rfl,rfl,D.1,ab.1,by omega,M,an.out,u.out,A.out⟩
     case measure=>simp[intOf];omega
    ·rw[m] at K
     have cb:(AC call b f (AC call b l S).2).2.stop=none:=by
      cases b0:(AC call b f (AC call b l S).2).2.stop with
      |none=>rfl
      |some cn=>rw[b0] at m;simp at m
     by_cases bu:ae=0
     ·subst bu;have b2:=Mb ag.out cb 10;have a3:Hid ((AC call b (.bin (Ad T a).text l f) S).2=(AC call b f (AC call b l S).2).2.fail 10):=F.out.2 m (by unfold GH BE;rw[r];rfl);clear P F ac V;go_upto_region 15 with(first|(go_at_call 178;refine Aq K ?_)|(go_at_call 179;refine b2.mono ?_;rintro x ad⟨rfl,bw,ce⟩));obtain⟨j,C⟩:=aj ad g e _ bw.out;have A:Hid (RA O Y cap B T c U vg G vh H (ad.alloc (.cells Hp 9)) g e (AC call b (.bin (Ad T a).text l f) S).2/\Kf O G H vo e w (ad.alloc (.cells Hp 9))):=And.intro (by rw[a3.out];exact j) ((ah.out.trans (Kf.of_par ce)).trans (Kf.of_par (As.of_below ((Below.refl ad.heap.size ad).alloc (AA _) (.cells Hp 9)))));have an:Hid (b=true->(AC call b (.bin (Ad T a).text l f) S).2.stop=none->q=(AC call b (.bin (Ad T a).text l f) S).1):=fun _ N=>by rw[a3.out] at N;cases N
      clear j;go_wp2_with(go_at_call 217;refine Aq C ?_)
      go_roundw
      case rel=>exact⟨ak,_,t,_,_,g,e,rfl,rfl,rfl,rfl,D.1,ab.1,by omega,M,an.out,u.out,A.out⟩
      case measure=>simp[intOf];omega
     ·obtain⟨j,C⟩:=aj i g e _ ag.out;have A:Hid _:=And.intro j (ah.out.trans (Kf.of_par (As.of_below ((Below.refl i.heap.size i).alloc (AA _) (.cells Hp 9)))));have aa:=P.out _ (by unfold GH BE;rw[r];simp only[bu,ID];rfl);have a2:Hid _:=aa;clear j F ac V aa P;go_wp2_with(first|(go_at_call 178;refine Aq K ?_)|(go_at_call 222;refine Aq (QJ _ _) ?_)|(go_at_call 217;refine Aq C ?_))
      go_roundw
      case rel=>exact⟨ak,_,t,_,_,g,e,rfl,rfl,rfl,rfl,D.1,ab.1,by omega,Rb _,a2.out.2,u.out,by rw[a2.out.1];exact A.out⟩
      case measure=>simp[intOf];omega)
  |false=>
   have u:Hid (BU T X Db s=(l,a)):=by show _=_;rw[<-Q.out,Kb y]
   have av:o=⟨#[]⟩:=by rw[R.out];exact Nl y
   subst av;clear Q y R;go_wp2;go_ret2;unfold XP;rw[u.out];exact⟨q,rfl,M,V,z,p,af.out⟩
end
theorem VW{l:List Sy}{n:Af}: ∀{b a:Nat},DQ l n b=some a->a<b
 |0,a,h=>by simp[DQ] at h
 |b+1,a,h=>by
  rw[DQ] at h;split at h
  ·simp at h;omega
  ·have:=VW h;omega
theorem Oh{l:List Sy}{n:Af}{a:Nat}(h:A9 l n=some a):a<l.length:=VW h
theorem We{l:List Sy}{a:Nat}(h:a<l.length):l[a]? =some (l.getD a default):=by rw[Dg,Bb h];rfl
section
variable{w:World}{v:Value}{l:List Sy}(h:Fw w v l)
include h
theorem Fw.block(e:0<l.length): ∃b cap,v=Ar b l.length cap/\ ∀a,a<l.length->
 w.cell? (Ac b (a*6))=some (.string (l.getD a default).name)/\w.cell? (Ac b (a*6+1))=some (Aa (l.getD a default).kind)/\w.cell? (Ac b (a*6+3))=some (Aa (l.getD a default).args):=by
 rcases h with⟨_,rfl⟩|⟨b,cap,rfl,f,c⟩
 ·simp at e
 ·exact⟨b,cap,rfl,fun a d=>c a _ (We d)⟩
theorem GV(r:l.length<=601)(n:Af):
 Ah 152 #[v,.string n] w fun f Z=>f=.returned (Aa (Es (A9 l n)))/\Z=w:=by
 by_cases k:0<l.length
 ·obtain⟨i,cap,rfl,e⟩:=h.block k;clear h;go_enter func152,ntmps152;go_wp2;go_loop [5] (fun b=> ∃a:Nat,a<=l.length/\b=Aa ((a:Int) -1)/\Hid (DQ l n a=A9 l n)) (fun b=>(intOf b+1).toNat)
  case atStart=>exact⟨l.length,AA _,by go_num,rfl⟩
  case round=>
   obtain⟨a,q,rfl,c⟩:=hrel;cases a with
   |zero=>
    have d:Hid (A9 l n=none):=by show _=_;rw[<-c.out];rfl
    clear c;go_wp2;go_ret;exact⟨by rw[d.out];rfl,rfl⟩
   |succ a=>
    have j:(((a+1:Nat):Int) -1)=a:=by omega
    rw[j];obtain⟨o,_,_⟩:=e a (by omega);have s:(a:Int)<l.length:=by omega
    clear e;cases g:((l.getD a default).name.toList==n.toList) with
    |true=>
     have d:Hid (A9 l n=some a):=by show _=_;rw[<-c.out,DQ,Ag g]
     clear c;generalize l.getD a default=m at*;go_wp2;go_ret;exact⟨by rw[d.out];rfl,rfl⟩
    |false=>
     have d:Hid (DQ l n a=A9 l n):=by show _=_;rw[<-c.out,DQ,Ae (by rw[g];simp)]
     clear c;generalize l.getD a default=m at*;go_wp2
     go_round
     case rel=>exact⟨a,by omega,by go_num,d⟩
     case measure=>simp[intOf]
 ·have f:l=[]:=Mi (by omega);subst f;rcases h with⟨rfl,_⟩|⟨i,cap,rfl,p,e⟩
  ·go_enter func152,ntmps152;go_wp2;go_loop [5] (fun b=>b=Aa (-1)) (fun b=>0)
   case atStart=>go_num
   case round=>
    subst hrel;go_wp2;go_ret;exact⟨rfl,rfl⟩
  ·clear e;go_enter func152,ntmps152;go_wp2;go_loop [5] (fun b=>b=Aa (-1)) (fun b=>0)
   case atStart=>go_num
   case round=>
    subst hrel;go_wp2;go_ret;exact⟨rfl,rfl⟩
end
theorem QA{c:Program}{d:FuncId}{args:Array Value}{w:World}{a n:Nat}{v:Value}
 (h:Calls c d args (w.drewN (a+n)) fun b Z=>b=.returned v/\Z=w.drewN (a+n)):Calls c d args (w.drewN (a+n)) fun b i=>b=.returned v/\ ∃g,i=w.drewN (a+g):=
 h.mono fun _ _⟨e,f⟩=>⟨e,n,f⟩
theorem Fw.drew{w:World}{v:Value}{l:List Sy}(h:Fw w v l)(a:Nat):Fw (w.drewN a) v l:=h.keep (AA _) (fun _ _ _ _=>rfl)
section
variable{O Y cap:Nat}{T:List Az}{n:Nm}{w:World}{s:PS}
theorem RW.drew{a:Option Nm}(h:RW O Y cap T a w s)(c:Nat):RW O Y cap T a (w.drewN c) s:=
 ⟨h.toks,h.mode_,h.fault,h.place,h.dead,h.frz,h.tok,h.ne,h.tlt,h.size,fun n b=>(h.env n b).keep (AA _) rfl rfl rfl (fun _ _ _ _ _=>rfl),h.ext⟩
theorem AdH(h:RW O Y cap T (some n) w s)(o:An T s):
 Ah 208 #[Al O,Aa s.next] w fun t Z=>t=.returned (.tuple #[Aa (n.E.kindIx (Ad T s).text).1,Aa (n.E.kindIx (Ad T s).text).2])/\ ∃j,Z=w.drewN j:=by
 have a:=h.env n rfl;have C:=h.toks;have B:=h.size;have y:(s.next:Int)<T.length:=by unfold An at o;omega
 obtain⟨_,_,_,x⟩:=h.curCells o;have p:=a.gcell;have u:=a.hcell;have e:=fun j=>GV (a.h.drew (w:=w) j) a.hlen (Ad T s).text;have f:=fun j=>GV (a.g.drew (w:=w) j) a.glen (Ad T s).text;have z:=a.hlen;have A:=a.glen;generalize(Ad T s).text=k at*;cases b:A9 n.E.here k with
 |some c=>
  have g:Hid (n.E.kindIx k=(0,-1)):=by show _=_;unfold Ao.kindIx;rw[b]
  have l:=Oh b;obtain⟨q,r,V,i⟩:=a.h.block (by omega);obtain⟨_,m,_⟩:=i c l;rw[a.vars _ (Ct (We l))] at m;rw[b,V] at e;rw[V] at u;simp only[Es] at e;have v:(c:Int)<n.E.here.length:=by omega
  clear i a b f p;go_enter func208,ntmps208;go_wp2;go_quiet(first|(go_at_call 152;exact Calls.quiet_of_same (e _)));go_wp2;go_ret2;rw[g.out];exact⟨rfl,_,rfl⟩
 |none=>
  rw[b] at e;simp only[Es] at e;cases d:A9 n.E.glob k with
  |none=>
   rw[d] at f;simp only[Es] at f;have g:Hid (n.E.kindIx k=(-1,-1)):=by show _=_;unfold Ao.kindIx;rw[b,d]
   clear a b d;go_enter func208,ntmps208;go_wp2;go_quiet(first|(go_at_call 152;exact Calls.quiet_of_same (e _)));go_wp2;go_quiet(first|(go_at_call 152;exact QA (f _)));go_wp2;go_ret2;rw[g.out];exact⟨rfl,_,rfl⟩
  |some c=>
   have g:Hid (n.E.kindIx k=(((n.E.glob.getD c default).kind:Int),(c:Int))):=by show _=_;unfold Ao.kindIx;rw[b,d]
   have l:=Oh d;obtain⟨q,r,V,i⟩:=a.g.block (by omega);obtain⟨_,m,_⟩:=i c l;rw[d,V] at f;rw[V] at p;simp only[Es] at f;have v:(c:Int)<n.E.glob.length:=by omega
   generalize((n.E.glob.getD c default).kind:Int)=D at*;clear i a b d;go_enter func208,ntmps208;go_wp2;go_quiet(first|(go_at_call 152;exact Calls.quiet_of_same (e _)));go_wp2;go_quiet(first|(go_at_call 152;exact QA (f _)));go_wp2;go_ret2;rw[g.out];exact⟨rfl,_,rfl⟩
end
def GC.sy(a:GC):Sy:=⟨a.name,a.kind,a.args⟩
theorem OL: ∀l:List GC,(l.flatMap GC.row).length=l.length*6
 |[]=>rfl
 |a::l=>by have b:(a::l).flatMap GC.row=a.row++l.flatMap GC.row:=rfl;have c:a.row.length=6:=rfl;rw[b,AG,OL l,c,Bg];omega
theorem Ahf{l:List GC}{a:Nat}{b:GC}(h:l[a]? =some b)(c:Nat)(i:c<6):(l.flatMap GC.row)[a*6+c]? =b.row[c]? :=by
 have g:=(BH.1 h).1;have e:l=l.take a++b::l.drop (a+1):=by have:l[a]=b:=(BH.1 h).2;rw[<-this,UA,Rv]
 have d:(l.take a).length=a:=by rw[It];omega
 have f:b.row.length=6:=rfl;rw[e,Ph,Rn,CS (by rw[OL,d];omega),OL,d,Jy,CR (by omega)]
section
variable{w:World}{base:Nat}{v:Value}{L:List GC}(h:w.ownsRow base 207 6 v L.length (L.flatMap GC.row))
include h
theorem Gt{k:Nat}{g:GC}(c:L[k]? =some g): ∃b cap,v=Ar b L.length cap/\b<w.heap.size/\ ∀a,a<6->w.cell? (Ac b (k*6+a))=g.row[a]? :=by have f:=(BH.1 c).1;obtain⟨b,cap,V,_,e⟩:=h.form (by omega);rw[V] at h;exact⟨b,cap,V,e,fun a d=>by rw[h.cellAt (k*6+a) (by omega)];exact Ahf c a d⟩
theorem Kt:Fw w v (L.map GC.sy):=by
 by_cases g:L=[]
 ·subst g;rcases h.2 with⟨c,_⟩|⟨f,cap,Ad,c,_,b,_⟩
  ·exact .inl ⟨c,rfl⟩
  ·exact .inr ⟨f,cap,c,(Ju.1 b).1,fun i l a=>by simp at a⟩
 ·obtain⟨j,cap,V,_,k⟩:=h.form (Mk.2 g);refine .inr ⟨j,cap,by rw[BF];exact V,k,fun i l a=> ?_⟩;rw[CC] at a;cases b:L[i]? with
  |none=>rw[b] at a;cases a
  |some f=>
   rw[b] at a;cases a;obtain⟨m,n,e,_,d⟩:=Gt h b;rw[V] at e;cases e;exact⟨d 0 (by omega),d 1 (by omega),d 3 (by omega)⟩
end
theorem VX{l:List Sy}{n:Af}: ∀(a:Nat),(∀b,b<a->((l.getD b default).name.toList==n.toList)=false)->DQ l n a=none
 |0,_=>rfl
 |a+1,h=>by rw[DQ,h a (by omega),Ae NH];exact VX a fun b c=>h b (by omega)
theorem VV{l:List Sy}{n:Af}{b:Nat}(d:((l.getD b default).name.toList==n.toList)=true): ∀(a:Nat),b<a->(∀c,b<c->c<a->((l.getD c default).name.toList==n.toList)=false)->DQ l n a=some b
 |0,h,_=>by omega
 |a+1,h,e=>by
  by_cases f:b=a
  ·subst f;rw[DQ,d,Ag rfl]
  ·rw[DQ,e a (by omega) (by omega),Ae NH];exact VV d a (by omega) fun c g i=>e c g (by omega)
theorem Ua{L:List GC}{a:Nat}(b:a<L.length):((L.map GC.sy).getD a default).name=L[a].name:=by rw[Dg,CC,Bb b];rfl
theorem LD{L:List GC}(h:G1 L){d:Nat}{a:GC}(c:L[d]? =some a){n:Af}(g:a.name.toList=n.toList):A9 (L.map GC.sy) n=some d:=by
 have f:=(BH.1 c).1;have j:=(BH.1 c).2;unfold A9;refine VV ?_ _ (by simpa using f) fun e k b=> ?_
 ·rw[Ua f,j,g];simp
 ·rw[BF] at b;rw[Ua b];cases i:(L[e].name.toList==n.toList) with
  |false=>rfl
  |true=>
   have:=h.1 e d L[e] a (Bb b) c ((eq_of_beq i).trans g.symm);omega
theorem Sq{L:List GC}{n:Af}(h: ∀b∈L,b.name.toList≠n.toList):A9 (L.map GC.sy) n=none:=by unfold A9;refine VX _ fun c a=> ?_;rw[BF] at a;rw[Ua a];simpa using h _ (D4 a)
section
variable{O:Nat}{w:World}{H:List GC}{S:RS}(V:Hn O w H S.hs)
include V
theorem SH(m:G1 H){b:Nat}{c:GC}(d:H[b]? =some c){n:Af}(i:c.name.toList=n.toList): ∃j,S.here[b]? =some j/\JK S.here n=some b/\w.ownsRow (O+1) 3 1 c.vv 1 [Aa j.2]:=by
 have s:=(BH.1 d).1;have t:H.length=S.here.length:=by rw[V.1];unfold RS.hs;rw[BF]
 obtain⟨u,e,o,p⟩:=V.2 b c d;unfold RS.hs at e;rw[CC,Bb (by omega)] at e;cases e;refine⟨S.here[b],Bb (by omega),?_,p⟩;unfold JK;rw[Rm];refine⟨by omega,?_,fun a r=> ?_⟩
 ·unfold AS;have:S.here[b].1=c.name:=o;rw[this,i];simp
 ·have h:a<H.length:=by omega
  obtain⟨v,f,q,_⟩:=V.2 a H[a] (Bb h);unfold RS.hs at f;rw[CC,Bb (by omega)] at f;cases f;intro k;have g:=eq_of_beq k;have l:S.here[a].1=H[a].name:=q;rw[l] at g;have:=m.1 a b H[a] c (Bb h) d (g.trans i.symm);omega
theorem Ws{n:Af}(f: ∀e∈H,e.name.toList≠n.toList):JK S.here n=none:=by
 unfold JK;rw[NP];intro h g;obtain⟨a,c⟩:=Is g;have j:=(BH.1 c).1;have k:H.length=S.here.length:=by rw[V.1];unfold RS.hs;rw[BF]
 obtain⟨l,b,i,_⟩:=V.2 a (H[a]'(by omega)) (Bb (by omega));unfold RS.hs at b;rw[CC,c] at b;cases b;have d:h.1=(H[a]'(by omega)).name:=i;unfold AS;rw[d];simpa using f _ (D4 (by omega))
end
theorem MO{O:Nat}{w:World}{G:List GC}{S:RS}(V:Hn O w G S.gs)(m:G1 G){b:Nat}{c:GC}(d:G[b]? =some c){n:Af}(j:c.name.toList=n.toList): ∃e,S.glob[b]? =some e/\JH S.glob n=some b/\w.ownsRow (O+1) 3 1 c.vv e.vals.length (e.vals.map (.int .i64)):=by
 have s:=(BH.1 d).1;have t:G.length=S.glob.length:=by rw[V.1];unfold RS.gs;rw[BF]
 obtain⟨u,f,o,p⟩:=V.2 b c d;unfold RS.gs at f;rw[CC,Bb (by omega)] at f;cases f;refine⟨S.glob[b],Bb (by omega),?_,p⟩;unfold JH;rw[Rm];refine⟨by omega,?_,fun a r=> ?_⟩
 ·unfold AS;have:S.glob[b].name=c.name:=o;rw[this,j];simp
 ·have i:a<G.length:=by omega
  obtain⟨v,g,q,_⟩:=V.2 a G[a] (Bb i);unfold RS.gs at g;rw[CC,Bb (by omega)] at g;cases g;intro k;have h:=eq_of_beq k;have l:S.glob[a].name=G[a].name:=q;rw[l] at h;have:=m.1 a b G[a] c (Bb i) d (h.trans j.symm);omega
def Lv(G H:List GC)(S:RS)(n:Af):Prop:=
 (∃(b:Nat)(a:GC),H[b]? =some a/\a.name.toList=n.toList)\/((∀a∈H,a.name.toList≠n.toList)/\ ∃(b:Nat)(a:GC)(c:RC),G[b]? =some a/\a.name.toList=n.toList/\S.glob[b]? =some c/\0<c.vals.length)
section
variable{O Y cap B:Nat}{T:List Az}{c:Nat}{U:Int}{vg:Value}{G:List GC}{vh:Value}{H:List GC}{w Z:World}{J vo:Value}{S I:RS}
theorem AcR(h:RA O Y cap B T c U vg G vh H w J vo S){s:PS}(I:An T s){L:Int}(W:L=s.next)(ab:Lv G H S (Ad T s).text):
 Ah 230 #[Al O,Aa L] w fun Q Z=>Q=.returned (Aa (S.get (Ad T s).text))/\VB (S.get (Ad T s).text)/\Ay w Z:=by
 subst W;have al:=h.siz;have ai:(s.next:Int)<T.length:=by unfold An at I;omega
 obtain⟨_,_,af⟩:=h.curCells I;have am:w.cell? (Ac O 0)=some (Ar Y T.length cap):=h.cel 0 _ rfl;have an:w.cell? (Ac O 4)=some vg:=h.cel 4 _ rfl;have ao:w.cell? (Ac O 5)=some vh:=h.cel 5 _ rfl;have e:=GV (Kt h.hro) (by rw[BF];exact h.nd.2.2) (Ad T s).text;have v:=fun z=>GV (Kt (Cq (w':=w.drewN z) h.gro fun d _=>rfl)) (by rw[BF];exact h.nd.1.2) (Ad T s).text;generalize(Ad T s).text=n at*;rcases ab with⟨d,i,b,k⟩|⟨K,d,i,a,b,k,p,o⟩
 ·obtain⟨a,A,C,q⟩:=SH h.hv h.nd.2 b k;have g:S.get n=a.2:=by unfold RS.get;rw[C];show(S.here.getD d default).2=a.2;rw[Dg,A];rfl
  have l:VB a.2:=h.bnd.1 (a.1,[a.2]) (J6 _ (CD.2 ⟨a,Ct A,rfl⟩)) a.2 (by simp);rw[g];rw[LD h.nd.2 b k] at e;obtain⟨R,V,rfl,_,j⟩:=Gt h.hro b;obtain⟨M,ad,m,_,_⟩:=q.form (by omega);have u:=j 2 (by omega);have y:i.row[2]? =some i.vv:=rfl;rw[y,m] at u;rw[m] at q;have f:=q.cellAt 0 (by omega);rw[Rp] at f;have aa:=(BH.1 b).1;have X:(d:Int)<(H.length:Int):=by omega
  have aj:((d:Int)>=0):=by omega
  have t:Hid (VB a.2):=l;simp only[Es] at e;clear h j q l g v A C;generalize a.2=ae at*;go_enter func230,ntmps230;go_wp2_with(go_at_call 152;refine Aq e ?_);go_ret;exact⟨rfl,t.out,Below.refl _ _⟩
 ·obtain⟨C,N,P,r⟩:=MO h.gv h.nd.1 b k;rw[p] at N;cases N;have g:S.get n=a.vals.getD 0 0:=by unfold RS.get;rw[Ws h.hv K,P];show(S.glob.getD d default).vals.getD 0 0=_;rw[Dg (l:=S.glob),p];rfl
  have D:a.vals.getD 0 0=a.vals[0]:=by simp[List.getD,o]
  have l:VB a.vals[0]:=h.bnd.1 (a.name,a.vals) (Iu _ (CD.2 ⟨a,Ct p,rfl⟩)) _ (D4 o);rw[g,D];rw[Sq K] at e;have x:=fun z=>v z;simp only[LD h.nd.1 b k] at x;obtain⟨R,V,rfl,_,j⟩:=Gt h.gro b;obtain⟨M,ad,m,_,_⟩:=r.form o;have u:=j 2 (by omega);have y:i.row[2]? =some i.vv:=rfl;rw[y,m] at u;rw[m] at r;have f:=r.cellAt 0 (by omega);rw[CC,Bb o] at f;have ag:w.cell? (Ac M 0)=some (Aa a.vals[0]):=f;have aa:=(BH.1 b).1;have X:(d:Int)<(G.length:Int):=by omega
  have t:Hid (VB a.vals[0]):=l;have ak:(0:Int)<(a.vals.length:Int):=by omega
  have ac: ∃E F,vh=.slice E H.length F/\H.length<=F:=D9 h.hro;obtain⟨E,ah,rfl,_⟩:=ac;simp only[Es] at e x;clear h j r l g v f D p P;generalize a.vals[0]=ae at*;generalize a.vals.length=ap at*;go_enter func230,ntmps230;go_wp2_with(go_at_call 152;refine Aq e ?_);go_quiet((go_at_call 152;refine Calls.quiet_of_same (x _)));go_wp2;go_ret;exact⟨rfl,t.out,GG _ (Below.refl _ _)⟩
end
theorem KU{L:List Value}(h:L.Pairwise Df){i j:Nat}(q:i≠j){g k:Value}(o:L[i]? =some g)(p:L[j]? =some k): ∀a,g.ownBlock=some a->k.ownBlock≠some a:=by
 obtain⟨d,b⟩:=BH.1 o;obtain⟨e,c⟩:=BH.1 p;have f:=List.pairwise_iff_getElem.1 h;by_cases n:i<j
 ·have:=f i j d e n;rw[b,c] at this;exact this
 ·have:=f j i e d (by omega);rw[b,c] at this;exact fun a l m=>this a m l
section
variable{O Y cap B:Nat}{T:List Az}{c:Nat}{U:Int}{vg:Value}{G:List GC}{vh:Value}{H:List GC}{w Z:World}{J vo:Value}{S I:RS}
def BO(vg vh vo:Value)(G H:List GC):List Value:=[vg,vh,vo]++G.map GC.vv++H.map GC.vv++G.map GC.cv
theorem PI{c:Nat}{a:GC}(b:G[c]? =some a):(BO vg vh vo G H)[3+c]? =some a.vv:=by have d:=(BH.1 b).1;unfold BO;rw[DO,DO,CS (by simp),CR (by simp;omega),CC];simp[b]
theorem Od{a:Nat}{b:GC}(c:H[a]? =some b):(BO vg vh vo G H)[3+G.length+a]? =some b.vv:=by
 have e:=(BH.1 c).1;unfold BO;rw[CR (by simp;omega),CS (by simp;omega),CC];have d:3+G.length+a -([vg,vh,vo]++G.map GC.vv).length=a:=by simp;omega
 rw[d,c];rfl
theorem Sb{a:Nat}{b:GC}(d:G[a]? =some b):(BO vg vh vo G H)[3+G.length+H.length+a]? =some b.cv:=by
 unfold BO;rw[CS (by simp;omega),CC];have c:3+G.length+H.length+a -([vg,vh,vo]++G.map GC.vv++H.map GC.vv).length=a:=by simp;omega
 rw[c,d];rfl
theorem RA.vals(h:RA O Y cap B T c U vg G vh H w J vo S){d:Nat}(P:O<d)(hF:Fr (fun a=>a=d) w Z)(E:vg.ownBlock≠some d)(F:vh.ownBlock≠some d)(K:vo.ownBlock≠some d)(C: ∀f∈G,f.cv.ownBlock≠some d)(g:Hn O Z G I.gs)(x:Hn O Z H I.hs)(j:I.input=S.input)(s:I.out=S.out)(k:I.used=S.used)(t:I.stop=S.stop)(u: ∀N∈I.gs++I.hs,∀v∈N.2,VB v):RA O Y cap B T c U vg G vh H Z J vo I:=by
 have A:=h.lt;have e: ∀a,a≠d->a<w.heap.size->Z.heap[a]? =w.heap[a]? :=fun a e z=>hF.block a z e;have i: ∀{b:TypeId}{p:Nat}{v:Value}{n:Nat}{q:List Value},w.ownsRow (O+1) b p v n q->v.ownBlock≠some d->Z.ownsRow (O+1) b p v n q:=fun l D=>Cq l fun a b=>e a (fun r=>D (by rw[b,r])) (l.lt a b).2;have m:=e O (by omega) A;refine⟨?_,fun o=>by rw[World.frozen?_of_block (w:=w) m];exact h.frz o,fun L M y=> ?_,h.tlt,h.siz,h.bud,by rw[k];exact h.use,⟨?_,h.inp.2⟩,i h.gro E,i h.hro F,g,x,?_,h.apt,⟨u,by rw[j];exact h.bnd.2⟩,h.nd,fun f g=>i (h.cvr f g) (C f g),h.cpi⟩
 ·have b:Dy Y cap T.length vg vh U J vo B c I=Dy Y cap T.length vg vh U J vo B c S:=by unfold Dy;rw[k,t]
  rw[b];exact h.cel.block m
 ·rw[World.cell?_of_block (w:=w) (e Y (by have:=h.tlt;omega) (by have:=h.tlt;omega))];exact h.tok L M y
 ·rw[j];exact h.inp.1.kept hF.size fun a b=>e a (by have:=h.inp.2 a b;omega) (by have:=h.inp.2 a b;omega)
 ·rw[s];exact i h.oro K
theorem V8{w Z:World}{a:Nat}(h:w.grownBy Z (some a)):Fr (fun b=>b=a) w Z:=Fr.of_grown h rfl
theorem RA.setH(h:RA O Y cap B T c U vg G vh H w J vo S){k:Nat}{m:GC}(p:H[k]? =some m){n:Af}(N:m.name.toList=n.toList){g Q:Nat}(z:m.vv=Ar g 1 Q)(v:Int)(V:VB v):
 RA O Y cap B T c U vg G vh H (w.setCell (Ac g 0) (Aa v)) J vo (S.set n v)/\Kf O G H vo vo w (w.setCell (Ac g 0) (Aa v)):=by
 obtain⟨t,E,R,C⟩:=SH h.hv h.nd.2 p N;have W:=(BH.1 p).1;have y:m.vv.ownBlock=some g:=by rw[z];rfl
 have X:=(C.lt g y).1;have F:S.set n v={S with here:=S.here.set k (t.1,v)}:=by unfold RS.set;rw[R];show{S with here:=S.here.set k ((S.here.getD k default).1,v)}=_;rw[Dg,E];rfl
 rw[F];rw[z] at C;obtain⟨q1,P⟩:=C.stored 0 (Aa v);have M:H.length=S.here.length:=by rw[h.hv.1];unfold RS.hs;rw[BF]
 have hF:=V8 P;have K:=h.apt;have o: ∀(a:Nat)(b:Value),a≠3+G.length+k->(BO vg vh vo G H)[a]? =some b->b.ownBlock≠some g:=fun a b d i=>KU K (fun f=>d f.symm) (Od p) i g y;have L: ∀(a:Nat)(b:GC),G[a]? =some b->b.vv.ownBlock≠some g:=fun a b d=>o (3+a) _ (by have:=(BH.1 d).1;omega) (PI d);have D: ∀r:Value,r.ownBlock≠some g-> ∀e,r.ownBlock=some e->e<w.heap.size->(w.setCell (Ac g 0) (Aa v)).heap[e]? =w.heap[e]? :=fun r q e f I=>hF.block e I (fun l=>q (by rw[f,l]));refine⟨h.vals (by omega) hF (o 0 _ (by omega) rfl) (o 1 _ (by omega) rfl) (o 2 _ (by omega) rfl) (fun b i=>by obtain⟨a,d⟩:=Is i;exact o _ _ (by omega) (Sb d)) ⟨h.gv.1,fun a b d=> ?_⟩ ⟨?_,fun a b d=> ?_⟩ rfl rfl rfl rfl ?_,⟨hF.weak fun e _ f=>.inr (.inl ⟨m,J6 _ (Ct p),by rw[y,f]⟩),fun _ f=>.inl f⟩⟩
 ·obtain⟨s,j,u,x⟩:=h.gv.2 a b d;exact⟨s,j,u,Cq x fun e f=>D _ (L a b d) e f (x.lt e f).2⟩
 ·show H.length=((S.here.set k (t.1,v)).map _).length;rw[BF,Lq];exact M
 ·by_cases f:a=k
  ·subst f;rw[p] at d;cases d;refine⟨(t.1,[v]),?_,?_,by rw[z];exact q1⟩
   ·show((S.here.set a (t.1,v)).map _)[a]? =_;rw[CC,Rr (by omega)];rfl
   ·obtain⟨s,j,u,_⟩:=h.hv.2 a m p;unfold RS.hs at j;rw[CC,E] at j;cases j;exact u
  ·obtain⟨s,j,u,x⟩:=h.hv.2 a b d;refine⟨s,?_,u,Cq x fun e l=>D _ (o (3+G.length+a) _ (by omega) (Od d)) e l (x.lt e l).2⟩;show((S.here.set k (t.1,v)).map _)[a]? =_;rw[CC,Rq (fun l=>f l.symm)];unfold RS.hs at j;rw[CC] at j;exact j
 ·intro b i r q;rcases BD.1 i with i|i
  ·exact h.bnd.1 b (Iu _ i) r q
  ·obtain⟨s,A,rfl⟩:=CD.1 i;rcases Mo A with A|rfl
   ·exact h.bnd.1 _ (J6 _ (CD.2 ⟨s,A,rfl⟩)) r q
   ·simp at q;rw[q];exact V
end
