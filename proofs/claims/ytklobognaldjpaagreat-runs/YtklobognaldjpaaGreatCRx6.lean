/- The reference's walk: expressions, level by level. The refer -/
import Derived.Test.YtklobognaldjpaaGreatCRx2
set_option maxRecDepth 1000000
set_option maxHeartbeats 2000000
namespace Go.Proofs.YtklobognaldjpaaGreat
open Go.Proofs.Tryz
open Go.RowKit
def Ec(T:List Az)(s b:PS)(a:Int):Prop:=At b a/\(s.code=0->(s.next:Int)<=a/\a<=T.length)
theorem Ec.step{T:List Az}{s a d:PS}{c:Int}(e:Ec T s a a.next)(g:a.code=0)(b:Ec T (Ab a) d c):Ec T s d c:=
 ⟨b.1,fun f=>by
  have i:=e.2 f;have j:=b.2 g;have h:(Ab a).next=a.next+1:=rfl
  omega⟩
def E8(wb U cap:Nat)(T:List Az)(m:Option Nm)(e:Nat)(d:Int)(O:AU):Prop:=
 ∀w s a(g:Bool),RW wb U cap T m w s->An T s->Av T s->At s a->Ah e #[Al wb,Aa a,Aa d,.bool g] w fun f c=> ∃h b:Int,f=.returned (.tuple #[Aa h,Aa b])/\Ec T s (O s).2 b/\RW wb U cap T m c (O s).2/\As wb w c
section
variable{wb U cap:Nat}{T:List Az}{m:Option Nm}{d:Int}{O:AU}
theorem Lf(a:Af)(s:PS):CL T [a] s=Aj T a s:=by simp[CL]
theorem Agq(h:AR T)(hF:E8 wb U cap T m 198 d O)(A:AM T O)(D:SM T O)(F:Fx T Ei):E8 wb U cap T m 177 d (BU T O [Ei]):=by
 intro w s af e z G K aa;have aq:=z.size;have u:=A s G;have L:=D s K;have ak:(O s).2.next<T.length:=u.1
 have X:=hF w s af e z G K aa;go_enter func177,ntmps177;go_wp2_with(first|(go_at_call 198;refine X.mono ?_;rintro p ar⟨v1,R,rfl,E,B,ab⟩)|(go_at_call 94;refine Aq (D3 h B u.1 L.1 R E.1 Ei F) ?_));go_loopw [10,11,12,13,14,15] (fun y x ag _ _ _ wr=> ∃(a:PS)(l:Ex)(f:Nat)(b k:Int),y=Aa b/\x=Aa k/\ag=.bool (Aj T Ei a)/\RW wb U cap T m wr a/\As wb w wr/\An T a/\Av T a/\Ec T s a k/\T.length<=a.next+f/\Hid (Bi T O [Ei] f l a=BU T O [Ei] s)) (fun _ x _ _ _ _ _=>T.length -(intOf x).toNat)
 case atStart=>exact⟨(O s).2,(O s).1,T.length,v1,R,rfl,rfl,rfl,B,ab,u.1,L.1,E,by omega,rfl⟩
 case round=>
  obtain⟨a,l,f,b,k,rfl,rfl,rfl,q,J,H,ad,t,ao,g⟩:=hrel;have al:a.next<T.length:=H;cases c:Aj T Ei a with
  |true=>
   have I:=AD h H c Ai;have i:=Cp h ad Ai c;obtain rfl:=t.1 i;have M:Av T (Ab a):=A4 i;have j:=A (Ab a) I;have N:=D (Ab a) M;have Y:(Ab a).next=a.next+1:=rfl
   have am:(O (Ab a)).2.next<T.length:=j.1
   have an:a.next+1<=(O (Ab a)).2.next:=j.2
   obtain⟨n,rfl⟩: ∃n,f=n+1:=⟨f -1,by omega⟩;have o:Hid (Bi T O [Ei] n (.bin (Ad T a).text l (O (Ab a)).1) (O (Ab a)).2=BU T O [Ei] s):=by show _=_;rw[<-g.out,Ka (by rw[Lf];exact c)]
   have W: ∀v,Ah 198 #[Al wb,Aa ((a.next:Int)+1),Aa d,.bool v] wr fun p V=> ∃y Q:Int,p=.returned (.tuple #[Aa y,Aa Q])/\Ec T (Ab a) (O (Ab a)).2 Q/\RW wb U cap T m V (O (Ab a)).2/\As wb wr V:=fun v=>by exact hF wr (Ab a) _ v (q.at _) I M (fun _=>by show _=((a.next+1:Nat):Int);omega)
   clear g c Y;generalize(O (Ab a)).2=ah at*;generalize(O (Ab a)).1=ai at*;have Z:e=false\/(e=true/\(b==0)=true/\(b !=0)=false)\/(e=true/\(b==0)=false/\(b !=0)=true):=by cases e<;>cases P:(b==0)<;>simp_all
   rcases Z with rfl|⟨rfl,P,ae⟩|⟨rfl,P,ae⟩
   all_goals
    go_wp2_with(first|(go_at_call 178;refine Aq (Ht q _) ?_)|(go_at_call 198;refine(W _).mono ?_;rintro p au⟨v4,S,rfl,r,C,ac⟩)|(go_at_call 94;refine Aq (D3 h C j.1 N.1 S r.1 Ei F) ?_))
    go_roundw
    case rel=>exact⟨ah,_,n,b,S,rfl,rfl,rfl,C,J.trans ac,j.1,N.1,t.step i r,by omega,o⟩
    case measure=>have ap:=(r.2 i).1;have aj:(Ab a).next=a.next+1:=rfl;simp[intOf];omega
  |false=>
   have o:Hid (BU T O [Ei] s=(l,a)):=by show _=_;rw[<-g.out,Kb (by rw[Lf];exact c)]
   clear g c;go_wp2;go_ret2;refine⟨b,k,rfl,?_⟩;rw[o.out];exact⟨t,q,J⟩
theorem Agl(h:AR T)(hF:E8 wb U cap T m 211 d O)(A:AM T O)(D:SM T O)(F:Fx T Eg):E8 wb U cap T m 198 d (BU T O [Eg]):=by
 intro w s af e z G K aa;have aq:=z.size;have u:=A s G;have L:=D s K;have ak:(O s).2.next<T.length:=u.1
 have X:=hF w s af e z G K aa;go_enter func198,ntmps198;go_wp2_with(first|(go_at_call 211;refine X.mono ?_;rintro p ar⟨v1,R,rfl,E,B,ab⟩)|(go_at_call 94;refine Aq (D3 h B u.1 L.1 R E.1 Eg F) ?_));go_loopw [10,11,12,13,14,15] (fun y x ag _ _ _ wr=> ∃(a:PS)(l:Ex)(f:Nat)(b k:Int),y=Aa b/\x=Aa k/\ag=.bool (Aj T Eg a)/\RW wb U cap T m wr a/\As wb w wr/\An T a/\Av T a/\Ec T s a k/\T.length<=a.next+f/\Hid (Bi T O [Eg] f l a=BU T O [Eg] s)) (fun _ x _ _ _ _ _=>T.length -(intOf x).toNat)
 case atStart=>exact⟨(O s).2,(O s).1,T.length,v1,R,rfl,rfl,rfl,B,ab,u.1,L.1,E,by omega,rfl⟩
 case round=>
  obtain⟨a,l,f,b,k,rfl,rfl,rfl,q,J,H,ad,t,ao,g⟩:=hrel;have al:a.next<T.length:=H;cases c:Aj T Eg a with
  |true=>
   have I:=AD h H c Ai;have i:=Cp h ad Ai c;obtain rfl:=t.1 i;have M:Av T (Ab a):=A4 i;have j:=A (Ab a) I;have N:=D (Ab a) M;have Y:(Ab a).next=a.next+1:=rfl
   have am:(O (Ab a)).2.next<T.length:=j.1
   have an:a.next+1<=(O (Ab a)).2.next:=j.2
   obtain⟨n,rfl⟩: ∃n,f=n+1:=⟨f -1,by omega⟩;have o:Hid (Bi T O [Eg] n (.bin (Ad T a).text l (O (Ab a)).1) (O (Ab a)).2=BU T O [Eg] s):=by show _=_;rw[<-g.out,Ka (by rw[Lf];exact c)]
   have W: ∀v,Ah 211 #[Al wb,Aa ((a.next:Int)+1),Aa d,.bool v] wr fun p V=> ∃y Q:Int,p=.returned (.tuple #[Aa y,Aa Q])/\Ec T (Ab a) (O (Ab a)).2 Q/\RW wb U cap T m V (O (Ab a)).2/\As wb wr V:=fun v=>by exact hF wr (Ab a) _ v (q.at _) I M (fun _=>by show _=((a.next+1:Nat):Int);omega)
   clear g c Y;generalize(O (Ab a)).2=ah at*;generalize(O (Ab a)).1=ai at*;have Z:e=false\/(e=true/\(b==0)=true/\(b !=0)=false)\/(e=true/\(b==0)=false/\(b !=0)=true):=by cases e<;>cases P:(b==0)<;>simp_all
   rcases Z with rfl|⟨rfl,P,ae⟩|⟨rfl,P,ae⟩
   all_goals
    go_wp2_with(first|(go_at_call 178;refine Aq (Ht q _) ?_)|(go_at_call 211;refine(W _).mono ?_;rintro p au⟨v4,S,rfl,r,C,ac⟩)|(go_at_call 94;refine Aq (D3 h C j.1 N.1 S r.1 Eg F) ?_))
    go_roundw
    case rel=>exact⟨ah,_,n,b,S,rfl,rfl,rfl,C,J.trans ac,j.1,N.1,t.step i r,by omega,o⟩
    case measure=>have ap:=(r.2 i).1;have aj:(Ab a).next=a.next+1:=rfl;simp[intOf];omega
  |false=>
   have o:Hid (BU T O [Eg] s=(l,a)):=by show _=_;rw[<-g.out,Kb (by rw[Lf];exact c)]
   clear g c;go_wp2;go_ret2;refine⟨b,k,rfl,?_⟩;rw[o.out];exact⟨t,q,J⟩
end
theorem Lz(a:List UInt8):(bs a).toList=a:=by rw[EU];rfl
theorem Ra{c b:Int}(f:c.tmod 4294967296=b){a:Int}(h:VB a)(d:a=b\/a=b+4294967296\/a=b -4294967296):a=BW c:=by
 unfold BW;unfold VB at h;have e:c=4294967296*c.tdiv 4294967296+b:=by rw[<-f];exact(Int.mul_tdiv_add_tmod c 4294967296).symm
 have g:Int.bmod c 4294967296=Int.bmod a 4294967296:=by
  rcases d with d|d|d
  ·rw[e,d,Us];exact Ut b 4294967296 _
  ·rw[e,show b=a+4294967296*(-1) by omega,<-Rg,Us _ a,Rg,<-Int.mul_add];exact Ut a 4294967296 _
  ·rw[e,show b=a+4294967296*1 by omega,<-Rg,Us _ a,Rg,<-Int.mul_add];exact Ut a 4294967296 _
 rw[g];exact(Int.bmod_eq_of_le (by omega) (by omega)).symm
theorem QJ(b:Int)(w:World):Ah 222 #[Aa b] w fun e g=>e=.returned (Aa (BW b))/\g=w:=by
 obtain⟨a,d,i,j⟩: ∃a:Int,b.tmod 4294967296=a/\ -4294967296<a/\a<4294967296:=⟨_,rfl,by have:=Int.lt_tmod_of_pos b (show(0:Int)<4294967296 by omega);omega,Int.tmod_lt_of_pos b (by omega)⟩;by_cases h:a<0
 ·by_cases f:a+4294967296>2147483647
  ·have c:Hid (a=BW b):=Ra d (by unfold VB;omega) (.inl rfl);go_enter func222,ntmps222;go_wp2;go_ret;exact⟨by rw[<-c.out];rfl,rfl⟩
  ·have c:Hid (a+4294967296=BW b):=Ra d (by unfold VB;omega) (.inr (.inl rfl));go_enter func222,ntmps222;go_wp2;go_ret;exact⟨by rw[<-c.out];rfl,rfl⟩
 ·by_cases f:a>2147483647
  ·have c:Hid (a -4294967296=BW b):=Ra d (by unfold VB;omega) (.inr (.inr rfl));go_enter func222,ntmps222;go_wp2;go_ret;exact⟨by rw[<-c.out];rfl,rfl⟩
  ·have c:Hid (a=BW b):=Ra d (by unfold VB;omega) (.inl rfl);go_enter func222,ntmps222;go_wp2;go_ret;exact⟨by rw[<-c.out];rfl,rfl⟩
theorem Q4(a:Bool)(w:World):Ah 76 #[.bool a] w fun b c=>b=.returned (Aa (Cv a))/\c=w:=by
 cases a<;>
 ·go_enter func76,ntmps76;go_wp2;go_ret;exact⟨rfl,rfl⟩
structure Kf(wb:Nat)(G H:List GC)(vo vo':Value)(w w':World):Prop where
 fr:Fr (fun k=>k=wb\/(∃g∈G++H,g.vv.ownBlock=some k)\/vo.ownBlock=some k) w w'
 nw: ∀k,vo'.ownBlock=some k->vo.ownBlock=some k\/w.heap.size<=k
theorem Kf.refl(wb:Nat)(G H:List GC)(a:Value)(w:World):Kf wb G H a a w w:=⟨Fr.refl _ _,fun _ b=>.inl b⟩
theorem Kf.trans{wb:Nat}{G H:List GC}{i v1 h:Value}{w j k:World}(a:Kf wb G H i v1 w j)(e:Kf wb G H v1 h j k):Kf wb G H i h w k:=by
 refine⟨⟨e.fr.os.trans a.fr.os,e.fr.tape.trans a.fr.tape,e.fr.output.trans a.fr.output,AT a.fr.size e.fr.size,fun c g f=> ?_⟩,fun c b=> ?_⟩
 ·rw[e.fr.block c (CF g a.fr.size) (by
   rintro(b|b|b)
   ·exact f (.inl b)
   ·exact f (.inr (.inl b))
   ·rcases a.nw c b with d|d
    ·exact f (.inr (.inr d))
    ·omega)]
  exact a.fr.block c g f
 ·rcases e.nw c b with d|d
  ·exact a.nw c d
  ·exact .inr (AT a.fr.size d)
theorem Kf.of_par{wb:Nat}{G H:List GC}{a:Value}{w b:World}(d:As wb w b):Kf wb G H a a w b:=⟨Fr.of_par d (.inl rfl),fun _ c=>.inl c⟩
def AC(call:Dr)(c:Bool)(b:Ex)(a:RS):Int×RS:=if c&& !a.stop.isSome then AB call b a else(0,a)
def XP(wb U cap B:Nat)(T:List Az)(c:Nat)(ins:Int)(V:Value)(G:List GC)(X:Value)(H:List GC)(call:Dr)(a:Bool)(d:Ex)(i:Nat)(b:RS)(w:World)(k:Value)(h:Ending)(g:World):Prop:=
 ∃e:Int,h=.returned (.tuple #[Aa e,Aa (i:Nat)])/\VB e/\(a=true->(AC call a d b).2.stop=none->e=(AC call a d b).1)/\Hid (∃j f,RA wb U cap B T c ins V G X H g j f (AC call a d b).2/\Kf wb G H k f w g)
def XK(E:Ao)(L:Prop)(wb U cap B:Nat)(T:List Az)(c:Nat)(ins:Int)(V:Value)(G:List GC)(X:Value)(H:List GC)(call:Dr)(g:Nat)(d:Int)(O:AU):Prop:=
 ∀(w:World)(h f:Value)(b:RS)(s:PS)(e:Int)(a:Bool),RA wb U cap B T c ins V G X H w h f b->An T s->e=s.next->(O s).2.code=0->Av T s->AV E (O s).1=none->(a=true->L)->Ah g #[Al wb,Aa e,Aa d,.bool a] w (XP wb U cap B T c ins V G X H call a (O s).1 (O s).2.next b w f)
theorem Oy{E:Ao}{T:List Az}{O:AU}{d:List Af}: ∀(c:Nat)(b:Ex)(s:PS),AV E (Bi T O d c b s).1=none->AV E b=none
 |0,b,s,a=>by rw[Bi] at a;exact a
 |c+1,b,s,a=>by
  rw[Bi] at a;split at a
  ·have:=Oy c _ _ a;rw[AV] at this;exact(Bq this).1
  ·exact a
theorem Qg{E:Ao}{op:Af}{c b:Ex}(a:AV E (.bin op c b)=none):AV E b=none:=by rw[AV] at a;exact(Bq a).2
section
variable{E:Ao}{L:Prop}{wb U cap B:Nat}{T:List Az}{c:Nat}{ins:Int}{V:Value}{G:List GC}{X:Value}{H:List GC}{call:Dr}{d:Int}{O:AU}
theorem Ez{b:Bool}{c:Ex}{a:RS}(d:(b&& !a.stop.isSome)=false):AC call b c a=(0,a):=by unfold AC;rw[Ae (by rw[d];simp)]
theorem FM{b:Ex}{a:RS}(c:a.stop=none):AC call true b a=AB call b a:=by unfold AC;rw[c];rfl
theorem Acf{b d:Ex}{a:RS}{c:Bool}{f n:Int}{op:Af}(q:BE op [97,110,100]=false)(r:BE op [111,114]=true)(i:c=true->(AC call c b a).2.stop=none->f=(AC call c b a).1)
 (k:(c&&(f==0))=true->(AC call (c&&(f==0)) d (AC call c b a).2).2.stop=none->n=(AC call (c&&(f==0)) d (AC call c b a).2).1):
 (AC call c (.bin op b d) a).2=(AC call (c&&(f==0)) d (AC call c b a).2).2/\(c=true->(AC call c (.bin op b d) a).2.stop=none->(if c&& !(AC call c b a).2.stop.isSome then Cv (f !=0||n !=0) else f)=(AC call c (.bin op b d) a).1):=by
 cases c with
 |false=>simp[AC]
 |true=>
  cases h:a.stop with
  |some t=>
   have m: ∀e,AC call true e a=(0,a):=fun e=>Ez (by rw[h];rfl);rw[m,m];have o: ∀l,AC call l d a=(0,a):=fun l=>Ez (by rw[h];simp);dsimp only;rw[o];exact⟨rfl,fun _ e=>by rw[h] at e;cases e⟩
  |none=>
   rw[FM h,FM h] at*;have i:=i rfl;have s:AB call (.bin op b d) a=if(AB call b a).2.stop.isSome then(0,(AB call b a).2) else(if(AB call b a).1≠0 then(1,(AB call b a).2) else(Cv ((AB call d (AB call b a).2).1 !=0),(AB call d (AB call b a).2).2)):=by rw[AB,q,r];simp
   rw[s];generalize AB call b a=p at*;cases g:p.2.stop with
   |some t=>
    rw[Ez (by rw[g];simp)];simp[g]
   |none=>
    have i:=i g;subst i;by_cases j:p.1=0
    ·rw[j] at k⊢;simp only[BEq.rfl,Bool.and_self,forall_const] at k⊢;rw[FM g] at*;simp only[KO,Jv,ID,ne_eq,not_true_eq_false];refine⟨trivial,fun e=> ?_⟩;rw[k e];simp
    ·rw[Ez (by simp[j])];simp[j,g,Cv]
theorem Acp(aq:AR T)(hF:XK E L wb U cap B T c ins V G X H call 198 d O)(ap:AM T O)(N:SM T O)(ay:Fx T Ei):XK E L wb U cap B T c ins V G X H call 177 d (BU T O [Ei]):=by
 intro w bw x i s b7 e u az bm ax a2 a0 ao;subst bm;have b6:=u.siz;have a1:=ap s az;have a3:=N s a2;have bo: ∀ak∈[Ei],ak.toList≠[]:=fun ak bk=>by rw[Hk.1 bk];exact ay.1
 have F:Hid (∀(f:Nat)(b:Ex)(a:PS),Av T a->Bi T O [Ei] f b a=BU T O [Ei] s->a.code=0):=fun f b a bn h=>by
  by_cases al:a.code=0
  ·exact al
  ·have:=((Kv aq N bo f b a bn).2 al);rw[h] at this;rw[<-this];exact ax
 have ag:Hid (∀(f:Nat)(b:Ex)(a:PS),Bi T O [Ei] f b a=BU T O [Ei] s->AV E b=none):=fun f b a h=>Oy f b a (by rw[h];exact a0);have au:(O s).2.code=0:=F.out T.length (O s).1 (O s).2 a3.1 rfl;have K:=hF w bw x i s _ e u az rfl au a2 (ag.out T.length (O s).1 (O s).2 rfl) ao;have ae:Hid (∀(k:World)(l j:Value)(ai:RS)(a:PS),RA wb U cap B T c ins V G X H k l j ai->An T a->Ah 94 #[Al wb,Aa (a.next:Nat),.string Ei] k fun h bx=>h=.returned (.bool (Aj T Ei a))/\bx=k):=fun k l j ai a bf bl=>Dw bf bl rfl _ ay;clear u ax au a0;unfold XP at K;go_enter func177,ntmps177;go_upto_region 2 with(go_at_call 198;refine K.mono ?_;rintro h aa⟨v1,rfl,bj,bp,ac⟩);obtain⟨Z,D,J,am⟩:=ac.out;have bg:=ae.out aa Z D _ (O s).2 J a1.1;have bb:Hid (RA wb U cap B T c ins V G X H aa Z D (AC call e (O s).1 i).2/\Kf wb G H x D w aa):=⟨J,am⟩;clear J am ac K;go_wp2_with(go_at_call 94;refine Aq bg ?_);go_loopw [10,11,12,13,14,15] (fun bv Y bt _ _ _ wr=> ∃(a:PS)(b:Ex)(f:Nat)(g:Int)(l j:Value),bv=Aa g/\Y=Aa (a.next:Nat)/\bt=.bool (Aj T Ei a)/\An T a/\Av T a/\T.length<=a.next+f/\VB g/\(e=true->(AC call e b i).2.stop=none->g=(AC call e b i).1)/\Hid (Bi T O [Ei] f b a=BU T O [Ei] s)/\Hid (RA wb U cap B T c ins V G X H wr l j (AC call e b i).2/\Kf wb G H x j w wr)) (fun _ Y _ _ _ _ _=>T.length -(intOf Y).toNat)
 case atStart=>exact⟨(O s).2,(O s).1,T.length,v1,Z,D,rfl,rfl,rfl,a1.1,a3.1,by omega,bj,bp,rfl,bb.out⟩
 case round=>
  obtain⟨a,b,f,g,l,j,rfl,rfl,rfl,Q,a4,b4,ar,a6,r,q⟩:=hrel;have b1:a.next<T.length:=Q;have av:=F.out f b a a4 r.out;cases n:Aj T Ei a with
  |true=>
   have R:=AD aq Q n Ai;have S:Av T (Ab a):=A4 av;have C:=ap (Ab a) R;have a5:=N (Ab a) S;have b2:(O (Ab a)).2.next<T.length:=C.1
   have b3:a.next+1<=(O (Ab a)).2.next:=C.2
   obtain⟨o,rfl⟩: ∃o,f=o+1:=⟨f -1,by omega⟩;have t:Hid (Bi T O [Ei] o (.bin (Ad T a).text b (O (Ab a)).1) (O (Ab a)).2=BU T O [Ei] s):=by show _=_;rw[<-r.out,Ka (by rw[Lf];exact n)]
   have aw:=F.out o _ _ a5.1 t.out;have A:=hF wr l j _ (Ab a) ((a.next:Int)+1) (e&&(g==0)) q.out.1 R (by show _=((a.next+1:Nat):Int);omega) aw S (Qg (ag.out o _ _ t.out)) (fun h=>ao (by simp at h;exact h.1));have M:=Hu q.out.1 e;have W:(Ad T a).text.toList=[111,114]:=by have:=n;unfold Aj at this;rw[Lz] at this;exact eq_of_beq this
   have I:Hid (∀ba,((e&&(g==0))=true->(AC call (e&&(g==0)) (O (Ab a)).1 (AC call e b i).2).2.stop=none->ba=(AC call (e&&(g==0)) (O (Ab a)).1 (AC call e b i).2).1)->_):=fun ba br=>Acf (op:=(Ad T a).text) (by unfold BE;rw[W];rfl) (by unfold BE;rw[W];rfl) a6 br;have bi:=fun(k:World)(p m:Value)(aj:RS)(v:RA wb U cap B T c ins V G X H k p m aj)=>ae.out k p m aj (O (Ab a)).2 v C.1;have af:Hid (Kf wb G H x j w wr):=q.out.2;unfold XP at A;clear r n a4 av aw W R S Q;generalize b5:(O (Ab a)).2=bu at*;generalize(O (Ab a)).1=bd at*;have bq:((g==0)=true/\(g !=0)=false)\/((g==0)=false/\(g !=0)=true):=by cases u:(g==0)<;>simp[bne,u]
   cases P:(e&& !(AC call e b i).2.stop.isSome)<;>rw[P] at M<;>cases e<;>rcases bq with⟨a7,a8⟩|⟨a7,a8⟩;all_goals try(simp at P;done)
   all_goals(
    rw[a7] at A I;go_upto_region 5 with(go_at_call 178;refine Aq M ?_);go_upto_region 6 with(go_at_call 198;refine A.mono ?_;rintro h ab⟨bz,rfl,b0,a9,ad⟩);obtain⟨p,m,v,an⟩:=ad.out;have bh:=bi ab p m _ v;have z:=I.out bz a9;rw[P] at z;have bc:Hid (RA wb U cap B T c ins V G X H ab p m (AC call _ (.bin (Ad T a).text b bd) i).2/\Kf wb G H x m w ab):=⟨by rw[z.1];exact v,af.out.trans an⟩;have ah:Hid _:=z.2;clear v an ad A I z a9 q af M;go_wp2_with(first|(go_at_call 76;refine Aq (Q4 _ _) ?_)|(go_at_call 94;refine Aq bh ?_))
    go_roundw
    case rel=>exact⟨bu,_,o,_,p,m,rfl,rfl,rfl,C.1,a5.1,by omega,by first|exact ar|(unfold VB Cv;split<;>omega),by first|exact ah.out|(intro _ be;have y:=ah.out (by trivial) be;rw[a8] at y;first|exact y|(rw[Ag trivial] at y;exact y)),t.out,bc.out⟩
    case measure=>simp[intOf];omega)
  |false=>
   have t:Hid (BU T O [Ei] s=(b,a)):=by show _=_;rw[<-r.out,Kb (by rw[Lf];exact n)]
   clear r n;go_wp2;go_ret2;unfold XP;rw[t.out];exact⟨g,rfl,ar,a6,l,j,q.out⟩
theorem Aca{b d:Ex}{a:RS}{c:Bool}{f l:Int}{op:Af}(q:BE op [97,110,100]=true)(i:c=true->(AC call c b a).2.stop=none->f=(AC call c b a).1)
 (j:(c&&(f !=0))=true->(AC call (c&&(f !=0)) d (AC call c b a).2).2.stop=none->l=(AC call (c&&(f !=0)) d (AC call c b a).2).1):
 (AC call c (.bin op b d) a).2=(AC call (c&&(f !=0)) d (AC call c b a).2).2/\(c=true->(AC call c (.bin op b d) a).2.stop=none->(if c&& !(AC call c b a).2.stop.isSome then Cv (f !=0&&l !=0) else f)=(AC call c (.bin op b d) a).1):=by
 cases c with
 |false=>simp[AC]
 |true=>
  cases h:a.stop with
  |some t=>
   have n: ∀e,AC call true e a=(0,a):=fun e=>Ez (by rw[h];rfl);rw[n,n];have o: ∀m,AC call m d a=(0,a):=fun m=>Ez (by rw[h];simp);dsimp only;rw[o];exact⟨rfl,fun _ e=>by rw[h] at e;cases e⟩
  |none=>
   rw[FM h,FM h] at*;have i:=i rfl;have r:AB call (.bin op b d) a=if(AB call b a).2.stop.isSome then(0,(AB call b a).2) else(if(AB call b a).1=0 then(0,(AB call b a).2) else(Cv ((AB call d (AB call b a).2).1 !=0),(AB call d (AB call b a).2).2)):=by rw[AB,q];simp
   rw[r];generalize AB call b a=p at*;cases g:p.2.stop with
   |some t=>
    rw[Ez (by rw[g];simp)];simp[g]
   |none=>
    have i:=i g;subst i;by_cases k:p.1=0
    ·rw[Ez (by simp[k])];simp[k,g,Cv]
    ·have s:(p.1 !=0)=true:=by simpa using k
     rw[s] at j⊢;have j:=j rfl;change(AC call true d p.2).2.stop=none->l=(AC call true d p.2).1 at j;change _=(AC call true d p.2).2/\_;rw[FM g] at*;simp only[KO,Jv,ID,k];refine⟨trivial,fun _ e=> ?_⟩;rw[j e];simp
theorem Aa4(aq:AR T)(hF:XK E L wb U cap B T c ins V G X H call 211 d O)(ap:AM T O)(N:SM T O)(ay:Fx T Eg):XK E L wb U cap B T c ins V G X H call 198 d (BU T O [Eg]):=by
 intro w bw x i s b7 e u az bl ax a2 a0 ao;subst bl;have b6:=u.siz;have a1:=ap s az;have a3:=N s a2;have bn: ∀ak∈[Eg],ak.toList≠[]:=fun ak bj=>by rw[Hk.1 bj];exact ay.1
 have F:Hid (∀(f:Nat)(b:Ex)(a:PS),Av T a->Bi T O [Eg] f b a=BU T O [Eg] s->a.code=0):=fun f b a bm h=>by
  by_cases al:a.code=0
  ·exact al
  ·have:=((Kv aq N bn f b a bm).2 al);rw[h] at this;rw[<-this];exact ax
 have ag:Hid (∀(f:Nat)(b:Ex)(a:PS),Bi T O [Eg] f b a=BU T O [Eg] s->AV E b=none):=fun f b a h=>Oy f b a (by rw[h];exact a0);have au:(O s).2.code=0:=F.out T.length (O s).1 (O s).2 a3.1 rfl;have K:=hF w bw x i s _ e u az rfl au a2 (ag.out T.length (O s).1 (O s).2 rfl) ao;have ae:Hid (∀(k:World)(l j:Value)(ai:RS)(a:PS),RA wb U cap B T c ins V G X H k l j ai->An T a->Ah 94 #[Al wb,Aa (a.next:Nat),.string Eg] k fun h bx=>h=.returned (.bool (Aj T Eg a))/\bx=k):=fun k l j ai a be bk=>Dw be bk rfl _ ay;clear u ax au a0;unfold XP at K;go_enter func198,ntmps198;go_upto_region 2 with(go_at_call 211;refine K.mono ?_;rintro h aa⟨v1,rfl,bi,bp,ac⟩);obtain⟨Z,D,J,am⟩:=ac.out;have bf:=ae.out aa Z D _ (O s).2 J a1.1;have ba:Hid (RA wb U cap B T c ins V G X H aa Z D (AC call e (O s).1 i).2/\Kf wb G H x D w aa):=⟨J,am⟩;clear J am ac K;go_wp2_with(go_at_call 94;refine Aq bf ?_);go_loopw [10,11,12,13,14,15] (fun bv Y bt _ _ _ wr=> ∃(a:PS)(b:Ex)(f:Nat)(g:Int)(l j:Value),bv=Aa g/\Y=Aa (a.next:Nat)/\bt=.bool (Aj T Eg a)/\An T a/\Av T a/\T.length<=a.next+f/\VB g/\(e=true->(AC call e b i).2.stop=none->g=(AC call e b i).1)/\Hid (Bi T O [Eg] f b a=BU T O [Eg] s)/\Hid (RA wb U cap B T c ins V G X H wr l j (AC call e b i).2/\Kf wb G H x j w wr)) (fun _ Y _ _ _ _ _=>T.length -(intOf Y).toNat)
 case atStart=>exact⟨(O s).2,(O s).1,T.length,v1,Z,D,rfl,rfl,rfl,a1.1,a3.1,by omega,bi,bp,rfl,ba.out⟩
 case round=>
  obtain⟨a,b,f,g,l,j,rfl,rfl,rfl,Q,a4,b4,ar,a7,r,q⟩:=hrel;have b1:a.next<T.length:=Q;have av:=F.out f b a a4 r.out;cases n:Aj T Eg a with
  |true=>
   have R:=AD aq Q n Ai;have S:Av T (Ab a):=A4 av;have C:=ap (Ab a) R;have a5:=N (Ab a) S;have b2:(O (Ab a)).2.next<T.length:=C.1
   have b3:a.next+1<=(O (Ab a)).2.next:=C.2
   obtain⟨o,rfl⟩: ∃o,f=o+1:=⟨f -1,by omega⟩;have t:Hid (Bi T O [Eg] o (.bin (Ad T a).text b (O (Ab a)).1) (O (Ab a)).2=BU T O [Eg] s):=by show _=_;rw[<-r.out,Ka (by rw[Lf];exact n)]
   have aw:=F.out o _ _ a5.1 t.out;have A:=hF wr l j _ (Ab a) ((a.next:Int)+1) (e&&(g !=0)) q.out.1 R (by show _=((a.next+1:Nat):Int);omega) aw S (Qg (ag.out o _ _ t.out)) (fun h=>ao (by simp at h;exact h.1));have M:=Hu q.out.1 e;have a6:(Ad T a).text.toList=[97,110,100]:=by have:=n;unfold Aj at this;rw[Lz] at this;exact eq_of_beq this
   have I:Hid (∀a9,((e&&(g !=0))=true->(AC call (e&&(g !=0)) (O (Ab a)).1 (AC call e b i).2).2.stop=none->a9=(AC call (e&&(g !=0)) (O (Ab a)).1 (AC call e b i).2).1)->_):=fun a9 br=>Aca (op:=(Ad T a).text) (by unfold BE;rw[a6];rfl) a7 br;have bh:=fun(k:World)(p m:Value)(aj:RS)(v:RA wb U cap B T c ins V G X H k p m aj)=>ae.out k p m aj (O (Ab a)).2 v C.1;have af:Hid (Kf wb G H x j w wr):=q.out.2;unfold XP at A;clear r n a4 av aw a6 R S Q;generalize b5:(O (Ab a)).2=bu at*;generalize(O (Ab a)).1=bc at*;have bq:((g==0)=true/\(g !=0)=false)\/((g==0)=false/\(g !=0)=true):=by cases u:(g==0)<;>simp[bne,u]
   cases P:(e&& !(AC call e b i).2.stop.isSome)<;>rw[P] at M<;>cases e<;>rcases bq with⟨bo,W⟩|⟨bo,W⟩;all_goals try(simp at P;done)
   all_goals(
    rw[W] at A I;go_upto_region 5 with(go_at_call 178;refine Aq M ?_);go_upto_region 6 with(go_at_call 211;refine A.mono ?_;rintro h ab⟨bz,rfl,b0,a8,ad⟩);obtain⟨p,m,v,an⟩:=ad.out;have bg:=bh ab p m _ v;have z:=I.out bz a8;rw[P] at z;have bb:Hid (RA wb U cap B T c ins V G X H ab p m (AC call _ (.bin (Ad T a).text b bc) i).2/\Kf wb G H x m w ab):=⟨by rw[z.1];exact v,af.out.trans an⟩;have ah:Hid _:=z.2;clear v an ad A I z a8 q af M;go_wp2_with(first|(go_at_call 76;refine Aq (Q4 _ _) ?_)|(go_at_call 94;refine Aq bg ?_))
    go_roundw
    case rel=>exact⟨bu,_,o,_,p,m,rfl,rfl,rfl,C.1,a5.1,by omega,by first|exact ar|(unfold VB Cv;split<;>omega),by first|exact ah.out|(intro _ bd;have y:=ah.out (by trivial) bd;try rw[W] at y;first|exact y|(rw[Ag trivial] at y;exact y)),t.out,bb.out⟩
    case measure=>simp[intOf];omega)
  |false=>
   have t:Hid (BU T O [Eg] s=(b,a)):=by show _=_;rw[<-r.out,Kb (by rw[Lf];exact n)]
   clear r n;go_wp2;go_ret2;unfold XP;rw[t.out];exact⟨g,rfl,ar,a7,l,j,q.out⟩
variable{m:Option Nm}
theorem Nl{b:List Af}{s:PS}(a:CL T b s=false):Ek T b s=⟨#[]⟩:=by
 unfold Ek
 rw[NO.2 (fun c d=>by
  unfold CL at a;rw[Ri] at a
  exact a c d)]
 rfl
theorem Nn{b:List Af}{s:PS}(c:CL T b s=true):Ek T b s∈b:=by
 unfold Ek;unfold CL at c;rw[IX] at c;cases d:b.find? (fun a=>Aj T a s) with
 |none=>
  rw[NO] at d;obtain⟨a,e,f⟩:=c;exact absurd f (d a e)
 |some a=>exact AaL d
theorem Agv(u:AR T)(hF:E8 wb U cap T m 221 d O)(H:AM T O)(L:SM T O)(af: ∀ac∈C9,Fx T ac):E8 wb U cap T m 216 d (BU T O C9):=by
 intro w s ak B F N R ag;have ax:=F.size;have y:=H s N;have S:=L s R;have ap:(O s).2.next<T.length:=y.1
 have ae:=hF w s ak B F N R ag;have I:=fun(t:World)(q:PS)(X:Int)(h:RW wb U cap T m t q)(j:An T q)(A:Av T q)(ah:At q X)=>TL u (h.alloc _) j A X ah t.heap.size 2 C9 (by decide) (T7 t [43] [45] 9) af;go_enter func216,ntmps216;go_wp2_with(first|(go_at_call 221;refine ae.mono ?_;rintro g ay⟨v1,Z,rfl,M,J,ai⟩)|(go_at_call 217;refine Aq (I _ _ Z J y.1 S.1 M.1) ?_));go_loopw [10,11,12,13,14] (fun D C op _ _ wr=> ∃(a:PS)(n:Ex)(c:Nat)(E l:Int)(o:Af),D=Aa E/\C=Aa l/\op=.string o/\Hid (o=Ek T C9 a)/\RW wb U cap T m wr a/\As wb w wr/\An T a/\Av T a/\Ec T s a l/\T.length<=a.next+c/\Hid (Bi T O C9 c n a=BU T O C9 s)) (fun _ C _ _ _ _=>T.length -(intOf C).toNat)
 case atStart=>exact⟨(O s).2,(O s).1,T.length,v1,Z,_,rfl,rfl,rfl,rfl,J.alloc _,ai.alloc _,y.1,S.1,M,by omega,rfl⟩
 case round=>
  obtain⟨a,n,c,E,l,o,rfl,rfl,rfl,f,h,Q,j,A,x,av,e⟩:=hrel;have aq:a.next<T.length:=j;cases b:CL T C9 a with
  |true=>
   have P:=Le u j BG.2.1 b;have i:=GK u A BG.2.1 b;obtain rfl:=x.1 i;have V:Av T (Ab a):=A4 i;have k:=H (Ab a) P;have W:=L (Ab a) V;have ar:(O (Ab a)).2.next<T.length:=k.1
   have au:a.next+1<=(O (Ab a)).2.next:=k.2
   obtain⟨p,rfl⟩: ∃p,c=p+1:=⟨c -1,by omega⟩;have r:Hid (Bi T O C9 p (.bin (Ad T a).text n (O (Ab a)).1) (O (Ab a)).2=BU T O C9 s):=by show _=_;rw[<-e.out,Ka b]
   have ad:Ah 221 #[Al wb,Aa ((a.next:Int)+1),Aa d,.bool B] wr fun g ab=> ∃D Y:Int,g=.returned (.tuple #[Aa D,Aa Y])/\Ec T (Ab a) (O (Ab a)).2 Y/\RW wb U cap T m ab (O (Ab a)).2/\As wb wr ab:=by exact hF wr (Ab a) _ B (h.at _) P V (fun _=>by show _=((a.next+1:Nat):Int);omega)
   have z:o=S8\/o=FA:=by have:=Nn b;rw[<-f.out] at this;simpa[C9] using this
   clear e b f;generalize(O (Ab a)).2=al at*;generalize(O (Ab a)).1=an at*;rcases z with rfl|rfl
   all_goals
    simp only[bs];go_wp2_with(first|(go_at_call 221;refine ad.mono ?_;rintro g az⟨v4,aa,rfl,v,K,aj⟩)|(go_at_call 222;refine(TO _ _).mono ?_;rintro g a0⟨am,rfl,G⟩;obtain rfl:=G.symm;clear G)|(go_at_call 217;refine Aq (I _ _ aa K k.1 W.1 v.1) ?_))
    go_roundw
    case rel=>exact⟨al,_,p,am,aa,_,rfl,rfl,rfl,rfl,K.alloc _,(Q.trans aj).alloc _,k.1,W.1,x.step i v,by omega,r⟩
    case measure=>have aw:=(v.2 i).1;have ao:(Ab a).next=a.next+1:=rfl;simp[intOf];omega
  |false=>
   have r:Hid (BU T O C9 s=(n,a)):=by show _=_;rw[<-e.out,Kb b]
   have z:o=⟨#[]⟩:=by rw[f.out];exact Nl b
   subst z;clear e b f;go_wp2;go_ret2;refine⟨E,l,rfl,?_⟩;rw[r.out];exact⟨x,h,Q⟩
theorem Agw(C:AR T)(hF:E8 wb U cap T m 225 d O)(P:AM T O)(R:SM T O)(ai: ∀ag∈Db,Fx T ag):E8 wb U cap T m 221 d (BU T O Db):=by
 intro w s an I L V X aj;have ay:=L.size;have F:=P s V;have Y:=R s X;have ar:(O s).2.next<T.length:=F.1
 have ah:=hF w s an I L V X aj;have B:=fun(A:World)(y:PS)(aa:Int)(q:RW wb U cap T m A y)(t:An T y)(H:Av T y)(ak:At y aa)=>TL C (q.alloc _) t H aa ak A.heap.size 3 Db (by decide) (T8 A [42] [47] [37] 9) ai;go_enter func221,ntmps221;go_wp2_with(first|(go_at_call 225;refine ah.mono ?_;rintro h az⟨v1,ac,rfl,S,Q,al⟩)|(go_at_call 217;refine Aq (B _ _ ac Q F.1 Y.1 S.1) ?_));go_loopw [10,11,12,13,14,15] (fun K J op _ _ _ wr=> ∃(a:PS)(x:Ex)(j:Nat)(z v:Int)(o:Af),K=Aa z/\J=Aa v/\op=.string o/\Hid (o=Ek T Db a)/\RW wb U cap T m wr a/\As wb w wr/\An T a/\Av T a/\Ec T s a v/\T.length<=a.next+j/\Hid (Bi T O Db j x a=BU T O Db s)) (fun _ J _ _ _ _ _=>T.length -(intOf J).toNat)
 case atStart=>exact⟨(O s).2,(O s).1,T.length,v1,ac,_,rfl,rfl,rfl,rfl,Q.alloc _,al.alloc _,F.1,Y.1,S,by omega,rfl⟩
 case round=>
  obtain⟨a,x,j,z,v,o,rfl,rfl,rfl,p,q,D,t,H,r,ax,l⟩:=hrel;have au:a.next<T.length:=t;cases b:CL T Db a with
  |true=>
   have W:=Le C t BG.1 b;have f:=GK C H BG.1 b;obtain rfl:=r.1 f;have Z:Av T (Ab a):=A4 f;have g:=P (Ab a) W;have u:=R (Ab a) Z;have av:(O (Ab a)).2.next<T.length:=g.1
   have aw:a.next+1<=(O (Ab a)).2.next:=g.2
   obtain⟨k,rfl⟩: ∃k,j=k+1:=⟨j -1,by omega⟩;have n:Hid (Bi T O Db k (.bin (Ad T a).text x (O (Ab a)).1) (O (Ab a)).2=BU T O Db s):=by show _=_;rw[<-l.out,Ka b]
   have N:Ah 225 #[Al wb,Aa ((a.next:Int)+1),Aa d,.bool I] wr fun h ae=> ∃K ab:Int,h=.returned (.tuple #[Aa K,Aa ab])/\Ec T (Ab a) (O (Ab a)).2 ab/\RW wb U cap T m ae (O (Ab a)).2/\As wb wr ae:=by exact hF wr (Ab a) _ I (q.at _) W Z (fun _=>by show _=((a.next+1:Nat):Int);omega)
   have G:o=S7\/o=S9\/o=S6:=by have:=Nn b;rw[<-p.out] at this;simpa[Db] using this
   clear l b p;generalize(O (Ab a)).2=ad at*;generalize(O (Ab a)).1=aq at*;rcases G with rfl|rfl|rfl
   ·simp only[bs];go_wp2_with(first|(go_at_call 225;refine N.mono ?_;rintro h ap⟨v4,i,rfl,e,c,E⟩)|(go_at_call 178;refine Aq (Ht c _) ?_)|(go_at_call 222;refine(TO _ _).mono ?_;rintro h a0⟨ao,rfl,M⟩;obtain rfl:=M.symm;clear M)|(go_at_call 217;refine Aq (B _ _ i c g.1 u.1 e.1) ?_))
    go_roundw
    case rel=>exact⟨ad,_,k,ao,i,_,rfl,rfl,rfl,rfl,c.alloc _,(D.trans E).alloc _,g.1,u.1,r.step f e,by omega,n⟩
    case measure=>have am:=(e.2 f).1;have af:(Ab a).next=a.next+1:=rfl;simp[intOf];omega
   all_goals
    simp only[bs];go_wp2_with(first|(go_at_call 225;refine N.mono ?_;rintro h ap⟨v4,i,rfl,e,c,E⟩)|(go_at_call 178;refine Aq (Ht c _) ?_)|(go_at_call 217;refine Aq (B _ _ i c g.1 u.1 e.1) ?_))
    go_roundw
    case rel=>exact⟨ad,_,k,z,i,_,rfl,rfl,rfl,rfl,c.alloc _,(D.trans E).alloc _,g.1,u.1,r.step f e,by omega,n⟩
    case measure=>have am:=(e.2 f).1;have af:(Ab a).next=a.next+1:=rfl;simp[intOf];omega
  |false=>
   have n:Hid (BU T O Db s=(x,a)):=by show _=_;rw[<-l.out,Kb b]
   have G:o=⟨#[]⟩:=by rw[p.out];exact Nl b
   subst G;clear l b p;go_wp2;go_ret2;refine⟨z,v,rfl,?_⟩;rw[n.out];exact⟨r,q,D⟩
theorem Agx(n:AR T)(hF:E8 wb U cap T m 216 d O)(M:AM T O)(P:SM T O)(R: ∀G∈C5,Fx T G):E8 wb U cap T m 211 d (DM T O):=by
 intro w s Z u v z A V;have af:=v.size;have r:=M s z;have B:=P s A;have ae:(O s).2.next<T.length:=r.1
 have y:=hF w s Z u v z A V;have j:=fun(a:World)(C:Int)(W:At (O s).2 C)(l:RW wb U cap T m a (O s).2)=>TL n (l.alloc _) r.1 B.1 C W a.heap.size 4 C5 (by decide) (QU a [61] [35] [60] [62] 9) R;cases b:CL T C5 (O s).2 with
 |true=>
  have S:=Le n r.1 BG.2.2.1 b;have p:=GK n B.1 BG.2.2.1 b;have Y:Av T (Ab (O s).2):=A4 p;have i:Hid ((DM T O s).2=(O (Ab (O s).2)).2):=by show _=_;unfold DM;rw[b];rfl
  have L: ∀a,RW wb U cap T m a (O s).2->Ah 216 #[Al wb,Aa (((O s).2.next:Int)+1),Aa d,.bool u] a fun f F=> ∃h c:Int,f=.returned (.tuple #[Aa h,Aa c])/\Ec T (Ab (O s).2) (O (Ab (O s).2)).2 c/\RW wb U cap T m F (O (Ab (O s).2)).2/\As wb a F:=fun a l=>by exact hF a (Ab (O s).2) _ u (l.at _) S Y (fun _=>by show _=(((O s).2.next+1:Nat):Int);omega)
  have k:Ek T C5 (O s).2=Tb\/Ek T C5 (O s).2=S5\/Ek T C5 (O s).2=Ta\/Ek T C5 (O s).2=Tc:=by have:=Nn b;simpa[C5] using this
  generalize(O (Ab (O s).2)).2=E at*;generalize Ek T C5 (O s).2=o at*;clear b;have H: ∀(a:World)(h c:Int),Ec T s E c->RW wb U cap T m a E->As wb w a-> ∃ab D:Int,Ending.returned (Value.tuple #[Aa h,Aa c])=.returned (.tuple #[Aa ab,Aa D])/\Ec T s (DM T O s).2 D/\RW wb U cap T m a (DM T O s).2/\As wb w a:=fun a h c I J K=>⟨h,c,rfl,by rw[i.out];exact I,by rw[i.out];exact J,K⟩;rcases k with rfl|rfl|rfl|rfl;all_goals simp only[bs] at j
  all_goals go_enter func211,ntmps211
  all_goals go_wp2_with(first|(go_at_call 216;refine(L _ (g.alloc _)).mono ?_;rintro f ag⟨v4,aa,rfl,Q,N,X⟩)|(go_at_call 216;refine y.mono ?_;rintro f ad⟨v1,t,rfl,e,g,q⟩;obtain rfl:=e.1 p)|(go_at_call 217;refine Aq (j _ _ e.1 g) ?_)|(go_at_call 76;refine(Aac _ _).mono ?_;rintro f ah⟨ac,rfl,x⟩;obtain rfl:=x.symm;clear x))
  all_goals go_ret2
  all_goals exact H _ ac aa (e.step p Q) N ((q.alloc _).trans X)
 |false=>
  have i:Hid (DM T O s=O s):=by show _=_;unfold DM;rw[b];rfl
  have k:=Nl b;rw[k] at j;clear b k;go_enter func211,ntmps211;go_wp2_with(first|(go_at_call 216;refine y.mono ?_;rintro f ad⟨v1,t,rfl,e,g,q⟩)|(go_at_call 217;refine Aq (j _ t e.1 g) ?_));go_ret2;refine⟨v1,t,rfl,?_⟩;rw[i.out];exact⟨e,g.alloc _,q.alloc _⟩
end
theorem Rb(a:Int):VB (BW a):=by unfold VB BW;have b:=Int.le_bmod (x:=a) (m:=4294967296) (by omega);have c:=Int.bmod_lt (x:=a) (m:=4294967296) (by omega);omega
theorem Aab(a:Bool):VB (Cv a):=by unfold VB Cv;split<;>omega
section
variable{E:Ao}{L:Prop}{wb U cap B:Nat}{T:List Az}{c:Nat}{ins:Int}{V:Value}{G:List GC}{X:Value}{H:List GC}{call:Dr}{d:Int}{O:AU}
theorem TJ{b:List Af}{s:PS}(d:CL T b s=true):(Ad T s).text.toList=(Ek T b s).toList:=by
 unfold Ek;unfold CL at d;cases c:b.find? fun a=>Aj T a s with
 |none=>
  rw[NO] at c;obtain⟨a,e,f⟩:=IX.1 d;exact absurd f (c a e)
 |some a=>
  have:=List.find?_some c;exact eq_of_beq this
theorem Sf{l r:Ex}{S:RS}{live:Bool}{f j k:Int}{op:Af}(m:BE op [97,110,100]=false)(n:BE op [111,114]=false)(q:GH op f j=some k)(b:live=true->(AC call live l S).2.stop=none->f=(AC call live l S).1)
 (c:live=true->(AC call live r (AC call live l S).2).2.stop=none->j=(AC call live r (AC call live l S).2).1):
 (AC call live (.bin op l r) S).2=(AC call live r (AC call live l S).2).2/\(live=true->(AC call live (.bin op l r) S).2.stop=none->k=(AC call live (.bin op l r) S).1):=by
 cases live with
 |false=>simp[AC]
 |true=>
  cases e:S.stop with
  |some i=>
   have g: ∀a,AC call true a S=(0,S):=fun a=>Ez (by rw[e];rfl);rw[g,g];dsimp only;rw[g];exact⟨rfl,fun _ a=>by rw[e] at a;cases a⟩
  |none=>
   rw[FM e,FM e] at*;have b:=b rfl;have c:=c rfl
   have o:AB call (.bin op l r) S=if(AB call l S).2.stop.isSome then(0,(AB call l S).2) else(if(AB call r (AB call l S).2).2.stop.isSome then(0,(AB call r (AB call l S).2).2) else match GH op (AB call l S).1 (AB call r (AB call l S).2).1 with
    |some f=>(f,(AB call r (AB call l S).2).2)
    |none=>(0,(AB call r (AB call l S).2).2.fail 10)):=by
    rw[AB,m,n,Ae NH,Ae NH];rfl
   rw[o];generalize AB call l S=p at*;cases d:p.2.stop with
   |some i=>
    rw[Ez (by rw[d];rfl)];simp[d]
   |none=>
    rw[FM d] at*;have b:=b d;subst b;simp only[KO,Jv,ID];cases h:(AB call r p.2).2.stop with
    |some i=>simp[h]
    |none=>
     have c:=c h;simp only[KO,Jv,ID];rw[<-c,q];exact⟨rfl,fun _ _=>rfl⟩
abbrev Lw:Array Value:= #[.string ⟨#[43]⟩,.string ⟨#[45]⟩]
abbrev Lx:Array Value:= #[.string ⟨#[61]⟩,.string ⟨#[35]⟩,.string ⟨#[60]⟩,.string ⟨#[62]⟩]
abbrev Hp:Array Value:= #[.string ⟨#[42]⟩,.string ⟨#[47]⟩,.string ⟨#[37]⟩]
theorem Aiv(ar:AR T)(hF:XK E L wb U cap B T c ins V G X H call 221 d O)(aq:AM T O)(M:SM T O)(bm: ∀y∈C9,Fx T y):XK E L wb U cap B T c ins V G X H call 216 d (BU T O C9):=by
 intro w bv C l s b4 i J a0 bo az a3 a1 ap;subst bo;have b3:=J.siz;have a2:=aq s a0;have a4:=M s a3
 have F:Hid (∀(e:Nat)(b:Ex)(a:PS),Av T a->Bi T O C9 e b a=BU T O C9 s->a.code=0):=fun e b a bp k=>by
  by_cases ah:a.code=0
  ·exact ah
  ·have:=((Kv ar M BG.2.1 e b a bp).2 ah);rw[k] at this;rw[<-this];exact az
 have ae:Hid (∀(e:Nat)(b:Ex)(a:PS),Bi T O C9 e b a=BU T O C9 s->AV E b=none):=fun e b a k=>Oy e b a (by rw[k];exact a1);have aw:(O s).2.code=0:=F.out T.length (O s).1 (O s).2 a4.1 rfl;have K:=hF w bv C l s _ i J a0 rfl aw a3 (ae.out T.length (O s).1 (O s).2 rfl) ap;have af:Hid (∀(f:World)(j g:Value)(I:RS)(a:PS),RA wb U cap B T c ins V G X H f j g I->An T a->RA wb U cap B T c ins V G X H (f.alloc (.cells Lw 9)) j g I/\Ah 217 #[Al wb,Aa (a.next:Nat),Ar f.heap.size 2 2] (f.alloc (.cells Lw 9)) fun k bw=>k=.returned (.string (Ek T C9 a))/\bw=f.alloc (.cells Lw 9)):=fun f j g I a be bn=>by have ai:=be.below ((Below.refl _ _).alloc (AA _) (.cells Lw 9));exact⟨ai,Qv C9 (by decide) (T7 f [43] [45] 9) fun y bl=>Dw ai bn rfl y (bm y bl)⟩
 clear J az aw a1;unfold XP at K;go_enter func216,ntmps216;go_upto_region 2 with(go_at_call 221;refine K.mono ?_;rintro k Z⟨v1,rfl,bi,bq,ab⟩);obtain⟨Y,D,aj,an⟩:=ab.out;obtain⟨ak,bf⟩:=af.out Z Y D _ (O s).2 aj a2.1;have ba:Hid (RA wb U cap B T c ins V G X H (Z.alloc (.cells Lw 9)) Y D (AC call i (O s).1 l).2/\Kf wb G H C D w (Z.alloc (.cells Lw 9))):=⟨ak,an.trans (Kf.of_par (As.of_below AP))⟩;clear aj an ab K ak;go_wp2_with(go_at_call 217;refine Aq bf ?_);go_loopw [10,11,12,13,14] (fun bu W op _ _ wr=> ∃(a:PS)(b:Ex)(e:Nat)(n:Int)(o:Af)(j g:Value),bu=Aa n/\W=Aa (a.next:Nat)/\op=.string o/\Hid (o=Ek T C9 a)/\An T a/\Av T a/\T.length<=a.next+e/\VB n/\(i=true->(AC call i b l).2.stop=none->n=(AC call i b l).1)/\Hid (Bi T O C9 e b a=BU T O C9 s)/\Hid (RA wb U cap B T c ins V G X H wr j g (AC call i b l).2/\Kf wb G H C g w wr)) (fun _ W _ _ _ _=>T.length -(intOf W).toNat)
 case atStart=>exact⟨(O s).2,(O s).1,T.length,v1,_,Y,D,rfl,rfl,rfl,rfl,a2.1,a4.1,by omega,bi,bq,rfl,ba.out⟩
 case round=>
  obtain⟨a,b,e,n,o,j,g,rfl,rfl,rfl,r,P,a5,b2,av,a7,p,x⟩:=hrel;have bz:a.next<T.length:=P;have ax:=F.out e b a a5 p.out;cases h:CL T C9 a with
  |true=>
   have Q:=Le ar P BG.2.1 h;have S:Av T (Ab a):=A4 ax;have A:=aq (Ab a) Q;have a6:=M (Ab a) S;have b0:(O (Ab a)).2.next<T.length:=A.1
   have b1:a.next+1<=(O (Ab a)).2.next:=A.2
   obtain⟨m,rfl⟩: ∃m,e=m+1:=⟨e -1,by omega⟩;have q:Hid (Bi T O C9 m (.bin (Ad T a).text b (O (Ab a)).1) (O (Ab a)).2=BU T O C9 s):=by show _=_;rw[<-p.out,Ka h]
   have ay:=F.out m _ _ a6.1 q.out;have N:=hF wr j g _ (Ab a) ((a.next:Int)+1) i x.out.1 Q (by show _=((a.next+1:Nat):Int);omega) ay S (Qg (ae.out m _ _ q.out)) ap;have t:=TJ h;rw[<-r.out] at t;have R:o=S8\/o=FA:=by have:=Nn h;rw[<-r.out] at this;simpa[C9] using this
   have bh:=fun(f:World)(u v:Value)(ag:RS)(z:RA wb U cap B T c ins V G X H f u v ag)=>af.out f u v ag (O (Ab a)).2 z A.1;have ad:Hid (Kf wb G H C g w wr):=x.out.2;unfold XP at N;have bj:=av;unfold VB at bj;clear p h a5 ax ay Q S P r;generalize(O (Ab a)).2=bt at*;generalize(O (Ab a)).1=bd at*;rcases R with rfl|rfl
   all_goals(
    rw[Lz] at t;simp only[bs];go_upto_region 5 with(go_at_call 221;refine N.mono ?_;rintro k aa⟨bx,rfl,au,a8,ac⟩);obtain⟨u,v,z,ao⟩:=ac.out;obtain⟨al,bg⟩:=bh aa u v _ z;have bb:Hid _:=And.intro al ((ad.out.trans ao).trans (Kf.of_par (As.of_below ((Below.refl aa.heap.size aa).alloc (AA _) (.cells Lw 9)))));have bk:=au;unfold VB at bk;have bc:Hid (∀a9,GH (Ad T a).text n bx=some a9->_):=fun a9 br=>Sf (call:=call) (l:=b) (r:=bd) (S:=l) (live:=i) (by unfold BE;rw[t];rfl) (by unfold BE;rw[t];rfl) br a7 a8;clear z ao ac N al x ad au a8;go_wp2_with(first|(go_at_call 222;refine Aq (QJ _ _) ?_)|(go_at_call 217;refine Aq bg ?_))
    go_roundw
    case rel=>
     have am:=bc.out _ (by unfold GH BE;rw[t];rfl);exact⟨bt,_,m,_,_,u,v,rfl,rfl,rfl,rfl,A.1,a6.1,by omega,Rb _,am.2,q.out,by rw[am.1];exact bb.out⟩
    case measure=>simp[intOf];omega)
  |false=>
   have q:Hid (BU T O C9 s=(b,a)):=by show _=_;rw[<-p.out,Kb h]
   have R:o=⟨#[]⟩:=by rw[r.out];exact Nl h
   subst R;clear p h r;go_wp2;go_ret2;unfold XP;rw[q.out];exact⟨n,rfl,av,a7,j,g,x.out⟩
theorem AiN(ag:AR T)(hF:XK E L wb U cap B T c ins V G X H call 216 d O)(af:AM T O)(au:SM T O)(aw: ∀A∈C5,Fx T A):XK E L wb U cap B T c ins V G X H call 211 d (DM T O):=by
 intro w al Y K s bc n r Q ay l S f N;subst ay;have bb:=r.siz;have C:=af s Q;have a1:=au s S;have I:Hid (∀(a:World)(k g:Value)(e:RS)(D:PS),RA wb U cap B T c ins V G X H a k g e->An T D->RA wb U cap B T c ins V G X H (a.alloc (.cells Lx 9)) k g e/\Ah 217 #[Al wb,Aa (D.next:Nat),Ar a.heap.size 4 4] (a.alloc (.cells Lx 9)) fun z a5=>z=.returned (.string (Ek T C5 D))/\a5=a.alloc (.cells Lx 9)):=fun a k g e D M ax=>by have ab:=M.below ((Below.refl _ _).alloc (AA _) (.cells Lx 9));exact⟨ab,Qv C5 (by decide) (QU a [61] [35] [60] [62] 9) fun A av=>Dw ab ax rfl A (aw A av)⟩
 cases b:CL T C5 (O s).2 with
 |false=>
  have q:DM T O s=O s:=by unfold DM;rw[b];rfl
  have m:=Nl b;rw[q] at l f⊢;have i:=hF w al Y K s _ n r Q rfl l S f N;unfold XP at i⊢;clear r l b q f;generalize ba:(O s).2=F at*;go_enter func211,ntmps211;go_upto_region 2 with(go_at_call 216;refine i.mono ?_;rintro z h⟨v1,rfl,ai,W,p⟩);obtain⟨y,o,t,v⟩:=p.out;obtain⟨u,j⟩:=I.out h y o _ F t C.1;rw[m] at j;have an:Hid _:=And.intro u (v.trans (Kf.of_par (As.of_below ((Below.refl h.heap.size h).alloc (AA _) (.cells Lx 9)))));clear t v p i u;go_wp2_with(go_at_call 217;refine Aq j ?_);go_ret2;exact⟨v1,rfl,ai,W,y,o,an.out⟩
 |true=>
  have q:DM T O s=(.bin (Ad T (O s).2).text (O s).1 (O (Ab (O s).2)).1,(O (Ab (O s).2)).2):=by unfold DM;rw[b];rfl
  have P:=GK ag a1.1 BG.2.2.1 b;have R:=Le ag C.1 BG.2.2.1 b;have aj:Av T (Ab (O s).2):=A4 P;have az:=af (Ab (O s).2) R;have a9:(O (Ab (O s).2)).2.next<T.length:=az.1
  have x:=TJ b;have a0:Ek T C5 (O s).2=Tb\/Ek T C5 (O s).2=S5\/Ek T C5 (O s).2=Ta\/Ek T C5 (O s).2=Tc:=by have:=Nn b;simpa[C5] using this
  rw[q] at l f⊢;rw[AV] at f;have i:=hF w al Y K s _ n r Q rfl P S (Bq f).1 N;have J:Hid (∀(a:World)(k g:Value)(e:RS),RA wb U cap B T c ins V G X H a k g e->Ah 216 #[Al wb,Aa (((O s).2.next:Int)+1),Aa d,.bool n] a (XP wb U cap B T c ins V G X H call n (O (Ab (O s).2)).1 (O (Ab (O s).2)).2.next e a g)):=fun a k g e M=>hF a k g e (Ab (O s).2) _ n M R (by show _=(((O s).2.next+1:Nat):Int);omega) l aj (Bq f).2 N;unfold XP at i J⊢;have a8:(O s).2.next<T.length:=C.1
  clear r l b q P R aj f;generalize(O (Ab (O s).2)).2=bd at*;generalize(O (Ab (O s).2)).1=ar at*;generalize(O s).2=F at*;generalize(O s).1=aq at*;go_enter func211,ntmps211;go_upto_region 2 with(go_at_call 216;refine i.mono ?_;rintro z h⟨v1,rfl,ai,W,p⟩);obtain⟨y,o,t,v⟩:=p.out;obtain⟨u,j⟩:=I.out h y o _ F t C.1;have ah:=J.out _ y o _ u;have aa:Hid (Kf wb G H Y o w (h.alloc (.cells Lx 9))):=v.trans (Kf.of_par (As.of_below ((Below.refl h.heap.size h).alloc (AA _) (.cells Lx 9))));clear t v p i u J I;rcases a0 with m|m|m|m
  all_goals(
   rw[m] at x j;rw[Lz] at x;simp only[bs] at j;go_upto_region 5 with(go_at_call 217;refine Aq j ?_);go_upto_region 6 with(go_at_call 216;refine ah.mono ?_;rintro z be⟨a6,rfl,a7,ak,Z⟩);obtain⟨a3,a4,ac,ae⟩:=Z.out;have ao:Hid _:=And.intro ac (aa.out.trans ae);have ap:Hid (∀am,GH (Ad T F).text v1 a6=some am->_):=fun am a2=>Sf (call:=call) (l:=aq) (r:=ar) (S:=K) (live:=n) (by unfold BE;rw[x];rfl) (by unfold BE;rw[x];rfl) a2 W ak;clear ac ae Z ah aa j ak;go_wp2_with(go_at_call 76;refine Aq (Q4 _ _) ?_);go_ret2;have ad:=ap.out _ (by unfold GH BE;rw[x];rfl)
   exact⟨_,rfl,Aab _,ad.2,a3,a4,by rw[ad.1];exact ao.out⟩)
end
