/- The reference's tokens: words and numbers. The reference's t -/
import Derived.Test.YtklobognaldjpaaGreatCRefTok2
import Derived.Deep.CutBlock
set_option maxRecDepth 1000000
set_option maxHeartbeats 4000000
namespace Go.Proofs.YtklobognaldjpaaGreat
open Go.Proofs.Tryz
open Go.RowKit
theorem ZI(w:World)(a:List Af)(c:TypeId):FU (w.alloc (.cells (a.map Value.string).toArray c)) w.heap.size a:=by intro e d b;rw[Cl];simp[b]
def K2:List Af:=[⟨#[118,97,114]⟩,⟨#[112,114,111,99]⟩,⟨#[102,117,110,99]⟩,⟨#[98,101,103,105,110]⟩,⟨#[101,110,100]⟩,⟨#[105,102]⟩,⟨#[116,104,101,110]⟩,⟨#[101,108,115,101]⟩,⟨#[119,104,105,108,101]⟩,⟨#[100,111]⟩,⟨#[119,114,105,116,101]⟩,⟨#[114,101,97,100]⟩,⟨#[97,110,100]⟩,⟨#[111,114]⟩,⟨#[110,111,116]⟩]
theorem AdT:K2=Ha.map bs:=rfl
theorem UT(a:Af)(c:List (List UInt8)):Ho a (c.map bs)=c.contains a.data.toList:=by
 induction c with
 |nil=>rfl
 |cons b d f=>
  have e:Ho a ((b::d).map bs)=((bs b).toList==a.toList||Ho a (d.map bs)):=rfl;rw[e,f,Pg,EU,EU]
  congr 1
  show(b==a.data.toList)=_;rw[Uq];simp only[N4];exact eq_comm
def FY(b:Bool)(a:Int):Bool:=CI a||(Dv a&&b)
def Nv(s:Af)(p a:Nat):Af:=if a=p then⟨#[]⟩ else s.extract p a
def DT(s:Af)(p:Nat)(b:Bool):Nat:=p+((s.data.toList.drop p).takeWhile fun a=>FY b a.toNat).length
theorem Ahg(s:Af)(p a:Nat)(d:Bool)(m:p<=a)(l:a<=s.size)(i: ∀b(h:b<s.size),p<=b->b<a->FY d s[b].toNat=true)(j: ∀(h:a<s.size),FY d s[a].toNat=false):DT s p d=a:=by
 have key:=QX (fun f:UInt8=>FY d f.toNat) (s.data.toList.drop p) (a -p) (by rw[Hj,Fo];omega)
  (fun b k c=>by
    rw[Hj,Fo] at c;have e:(s.data.toList.drop p)[b]'(by rw[Hj,Fo];exact c)=s[p+b]'(by omega):=by rw[List.getElem_drop];rfl
    rw[e];exact i (p+b) (by omega) (by omega) (by omega))
  (fun c=>by
    rw[Hj,Fo] at c;have e:(s.data.toList.drop p)[a -p]'(by rw[Hj,Fo];exact c)=s[p+(a -p)]'(by omega):=by rw[List.getElem_drop];rfl
    rw[e];have:=j (by omega);have g:p+(a -p)=a:=by omega
    simp only[g];exact this)
 unfold DT;rw[key];omega
def KH(a:Bool)(b:Af):Int:=if Ho b K2 then 0 else if a then 1 else 2
theorem Ahk(s:Af)(p a:Nat)(b:Bool)(e:p<s.size)(c:FY b s[p].toNat=true)(g:p<=a)(f: ∀(h:a<s.size),FY b s[a].toNat=false):p<a:=by
 rcases Nat.lt_or_ge p a with h|h
 ·exact h
 ·have d:p=a:=by omega
  subst d;rw[f e] at c;cases c
theorem YN(s:Af)(p:Nat)(b:Bool)(w:World)(H:p<s.size)(I:s.size<=600)(u:Dv s[p].toNat=b)(q:FY b s[p].toNat=true):
 Ah 92 #[.string s,Aa p] w fun d i=>d=.returned (.agg #[Aa (KH b (s.extract p (DT s p b))),Aa 0,Aa p,.string (s.extract p (DT s p b))])/\Ay w i:=by
 have E: ∀w,Ah 89 #[.int .u8 (s[p].toNat:Nat)] w fun d i=>d=.returned (.bool b)/\i=w:=fun w=>by rw[<-u];exact QB _ _
 have B:Hid (FY b s[p].toNat=true):=q;obtain⟨f,k⟩: ∃f:Int,Hid (f=if b then 1 else 2):=⟨_,rfl⟩;clear q u;go_enter func92,ntmps92;rcases Bool.eq_false_or_eq_true b with e|e
 all_goals
  go_wp2_with(go_at_call 89;refine Aq (E _) ?_);go_loopw [7,8,9] (fun g _ _ wr=> ∃a:Nat,p<=a/\a<=s.size/\g=Aa a/\Hid (∀c(h:c<s.size),p<=c->c<a->FY b s[c].toNat=true)/\wr=(w.alloc (.cells #[Aa 0,Aa 0,Aa 0,.string ⟨#[]⟩] 162)).alloc (.cells #[Aa f,Aa 0,Aa p,.string (Nv s p a)] 162)) (fun g _ _ _=>s.size -(intOf g).toNat)
  case atStart=>exact⟨p,AA _,by omega,rfl,fun c h m D=>by omega,by simp[Nv,k.out,e]⟩
  case round=>
   obtain⟨a,x,F,rfl,j,rfl⟩:=hrel;rcases Nat.lt_or_ge a s.size with G|G
   focus cases t:CI s[a].toNat<;>cases v:Dv s[a].toNat
   all_goals first
    |(have r:FY b s[a].toNat=true:=by simp[FY,t,v,e]
      have A:Hid (∀c(h:c<s.size),p<=c->c<a+1->FY b s[c].toNat=true):=fun c h m D=>by
       by_cases d:c=a
       ·subst d;exact r
       ·exact j.out c h m (by omega)
      have HS:Hid (Nv s p (a+1)=s.extract p (a+1)):=by show _=_;unfold Nv;rw[Ae (by omega)]
      clear r;go_wp2_with(first|(go_at_call 90;refine Aq (TN _ _) ?_)|(go_at_call 89;refine Aq (QB _ _) ?_))
      go_roundw
      case rel=>exact⟨a+1,by omega,by omega,by go_num,A,by rw[HS.out]⟩
      case measure=>simp[intOf];omega)
    |(have l:Hid (∀(h:a<s.size),FY b s[a].toNat=false):=fun h=>by first|omega|simp[FY,t,v,e]
      have J:=Ahk s p a b H B.out x l.out;have C:Hid (DT s p b=a):=Ahg s p a b x F j.out l.out;rw[show Nv s p a=s.extract p a by unfold Nv;rw[Ae (by omega)]];have n:=fun y z=>UU (w.heap.size+2) 15 K2 (s.extract p a) (((w.alloc y).alloc z).alloc (.cells (K2.map Value.string).toArray 9)) (by decide) (by have:=ZI ((w.alloc y).alloc z) K2 9;simpa using this);cases o:Ho (s.extract p a) K2
      all_goals
       rw[o] at n;go_wp2_with(first|(go_at_call 90;refine Aq (TN _ _) ?_)|(go_at_call 89;refine Aq (QB _ _) ?_)|(go_at_call 91;refine Aq (n _ _) ?_));refine bodyPost_ret (v:=.agg #[Aa (if Ho (s.extract p a) K2 then 0 else f),Aa 0,Aa p,.string (s.extract p a)]) (by simp[results,results92,go_sem,o]) rfl ⟨by rw[C.out];simp[KH,k.out],?_⟩
       exact(AP.alloc (by simp) _).alloc (by simp;omega) _)
def TK.r:TK->Int|.keyword=>0|.name=>1|.number=>2|.sign=>3|.over=>4
def KD(a:Az):List Value:=[Aa a.kind.r,Aa a.val,Aa a.pos,.string a.text]
def DN(a:List Az):List Value:=a.flatMap KD
theorem Z9(b:List Az)(a:Az):DN (b++[a])=DN b++KD a:=by simp[DN]
def AaT(s:Af)(w:World)(c:Ending)(f:World):Prop:=
 Ay w f/\
 ((∃b d,DD s.data.toList=.error (b,d)/\c=.returned (.tuple #[Aw,Aa b,Aa d]))\/
  (∃a e,DD s.data.toList=.ok a/\c=.returned (.tuple #[e,Aa 0,Aa 0])/\f.ownsRow w.heap.size 162 4 e a.length (DN a)))
theorem JE(s:Af)(g a:Nat):s.extract g (g+a)=⟨((s.data.toList.drop g).take a).toArray⟩:=by
 apply ByteArray.ext;apply Array.toList_inj.1;simp only[Ur,Uo,Uw]
 congr 1
 omega
def Nu:List Af:=[⟨#[43]⟩,⟨#[45]⟩,⟨#[42]⟩,⟨#[47]⟩,⟨#[37]⟩,⟨#[61]⟩,⟨#[35]⟩,⟨#[60]⟩,⟨#[62]⟩,⟨#[40]⟩,⟨#[41]⟩,⟨#[91]⟩,⟨#[93]⟩,⟨#[44]⟩,⟨#[59]⟩,⟨#[46]⟩]
theorem Ahp:Nu=(Il.map fun a=>[a]).map bs:=rfl
theorem AbF(b:List UInt8)(a:UInt8):(b.map fun a=>[a]).contains [a]=b.contains a:=by
 induction b with
 |nil=>rfl
 |cons d b c=>
  rw[Mm,Pg,Pg,c]
  congr 1
  simp
theorem Aa1(s:Af)(g:Nat)(h:g<s.size):Ho (s.extract g (g+1)) Nu=Il.contains s[g]:=by obtain⟨a,c⟩:=G6 s g h;rw[Ahp,UT,JE,c];show(Il.map fun b=>[b]).contains ((s[g]::a).take 1)=_;rw[show(s[g]::a).take 1=[s[g]] from rfl,AbF]
theorem UV(a:Af):Ho a K2=Ha.contains a.data.toList:=by rw[AdT,UT]
section
variable(s:Af)(g:Nat)
include s g
theorem TS:DT s g true=g+GW (s.data.toList.drop g):=by
 unfold DT GW
 congr 3
 funext c
 simp only[FY,Ii,Ge,Bool.and_true,Bool.or_comm]
theorem QI:DT s g false=g+Dl (s.data.toList.drop g):=by
 unfold DT Dl
 congr 3
 funext c
 simp only[FY,Ge,Bool.and_false,Bool.or_false]
theorem Aed(h:g<s.size)(b:Dv s[g].toNat=true):
 ∃a,Cw (s.data.toList.drop g)=.ok a/\a.1.r=KH true (s.extract g (DT s g true))/\a.2.2=0/\(FP s.data.toList g a).text=s.extract g (DT s g true)/\g+a.2.1=DT s g true:=by
 obtain⟨d,c⟩:=G6 s g h;refine⟨(if Ha.contains ((s.data.toList.drop g).take (GW (s.data.toList.drop g))) then .keyword else .name,GW (s.data.toList.drop g),0),?_,?_,rfl,?_,?_⟩
 ·rw[c];simp only[Cw,Ii,b,Hr]
 ·rw[KH,UV,TS,JE];show TK.r (if Ha.contains _ then _ else _)=if Ha.contains ((s.data.toList.drop g).take (GW (s.data.toList.drop g))) then _ else _;split<;>rfl
 ·rw[TS,JE];rfl
 ·rw[TS]
theorem Aeb(h:g<s.size)(b:Dv s[g].toNat=false)(a:CI s[g].toNat=true):
 Cw (s.data.toList.drop g)=if Em (s.extract g (DT s g false)).data.toList>Hv then .error 3 else .ok (.number,Dl (s.data.toList.drop g),Em (s.extract g (DT s g false)).data.toList):=by
 obtain⟨d,c⟩:=G6 s g h;rw[QI,JE];show _=if Em ((s.data.toList.drop g).take (Dl (s.data.toList.drop g)))>Hv then Except.error 3 else Except.ok (TK.number,Dl (s.data.toList.drop g),Em ((s.data.toList.drop g).take (Dl (s.data.toList.drop g))));rw[c];simp only[Cw,Ii,Ge,b,a,Hr];rfl
theorem Aea(h:g<s.size)(c:CI s[g].toNat=true):KH false (s.extract g (DT s g false))=2:=by
 have k:Ha.contains (s.extract g (DT s g false)).data.toList=false:=by
  obtain⟨p,d⟩:=G6 s g h;rw[QI,JE];show Ha.contains ((s.data.toList.drop g).take (Dl (s.data.toList.drop g)))=false;have o:1<=Dl (s.data.toList.drop g):=by rw[d];simp[Dl,Ge,c]
  obtain⟨e,m⟩: ∃e,Dl (s.data.toList.drop g)=e+1:=⟨Dl (s.data.toList.drop g) -1,by omega⟩;rw[m,d,EN];have n:=(SJ _).1 c
  have j: ∀a∈Ha,a.head?≠some s[g]:=by
   intro a l f;have: ∀a∈Ha,∀b,a.head?=some b->97<=b.toNat:=by decide
   have:=this a l _ f;omega
  rw[Bool.eq_false_iff];intro i;have:=List.contains_iff_mem.1 i;exact j _ this rfl
 rw[KH,UV,k];rfl
end
theorem XR{b:Type}{p:b->Bool}: ∀{c:List b}{a:b},a∈c.takeWhile p->p a=true
 |[],a,h=>by simp at h
 |e::c,a,h=>by
  rw[List.takeWhile_cons] at h;split at h
  ·rename_i d;rcases C0.1 h with rfl|h
   ·exact d
   ·exact XR h
  ·simp at h
theorem AbX(s:Af)(g:Nat): ∀a(b:a<(s.extract g (DT s g false)).size),CI (s.extract g (DT s g false))[a].toNat=true:=by
 intro a b;have c:(s.extract g (DT s g false)).data.toList=(s.data.toList.drop g).takeWhile Ge:=by rw[QI,JE];show(s.data.toList.drop g).take (Dl (s.data.toList.drop g))=_;exact(List.prefix_iff_eq_take.1 (List.takeWhile_prefix _)).symm
 have d:(s.extract g (DT s g false))[a]∈(s.data.toList.drop g).takeWhile Ge:=by rw[<-c];exact D4 (l:=(s.extract g (DT s g false)).data.toList) b
 exact XR (p:=Ge) d
theorem Tryz.infoRTok:(prog.info? 162).map (fun a=>(a.zero,a.size,a.bytes))=some (some (.agg #[Aa 0,Aa 0,Aa 0,.string ByteArray.empty]),4,40):=by kernel_rfl
theorem Ad7(s:Af)(a:List Az)(g:Nat)(h:g<s.size)(c:s[g].toNat=123):Hb s a g=.error (2,g):=by refine Qb s a g 2 h ?_;obtain⟨e,d⟩:=G6 s g h;rw[d];have b:s[g]=123:=(N7 _ _).2 c;rw[b];rfl
theorem Aec(s:Af)(g:Nat)(h:g<s.size)(b:Dv s[g].toNat=false)(a:CI s[g].toNat=false)(c:Il.contains s[g]=true):Cw (s.data.toList.drop g)=.ok (.sign,1,0):=by obtain⟨e,d⟩:=G6 s g h;rw[d];simp only[Cw,Ii,Ge,b,a,c,Hr];rfl
def Ly(s:Af)(g:Nat):Bool:=(s.extract g (g+2)).toList==[58,61]
section
variable(s:Af)(g:Nat)(h:g<s.size)
include s g h
theorem UZ:(g+1<s.size/\Ly s g=true)↔(s[g]=58/\(s.data.toList.drop (g+1)).head?=some 61):=by
 obtain⟨a,e⟩:=G6 s g h;have f:s.data.toList.drop (g+1)=a:=by have:=C4 (List.drop 1) e;rw[Uv] at this;exact this
 have i:(s.extract g (g+2)).toList=(s[g]::a).take 2:=by rw[EU,JE,e]
 have d:a.length=s.size -(g+1):=by rw[<-f,Hj,Fo]
 unfold Ly;rw[i,f];cases a with
 |nil=>simp at d⊢
 |cons j a=>
  simp only[Bg] at d;simp only[EN,Eo,N4,List.cons.injEq,Pq,List.head?_cons,Pl];constructor
  ·rintro⟨_,b,c⟩;exact⟨b,c⟩
  ·rintro⟨b,c⟩;exact⟨by omega,b,c⟩
theorem Ad8(c:g+1<s.size/\Ly s g=true):Cw (s.data.toList.drop g)=.ok (.sign,2,0)/\Il.contains s[g]=false:=by
 have a:=(UZ s g h).1 c;obtain⟨f,b⟩:=G6 s g h;have e:s.data.toList.drop (g+1)=f:=by have:=C4 (List.drop 1) b;rw[Uv] at this;exact this
 have d:Il.contains s[g]=false:=by rw[a.1];rfl
 refine⟨?_,d⟩;rw[e] at a;rw[b,a.1];simp only[Cw,a.2,and_self,Hr];rfl
theorem Ad9(e:Dv s[g].toNat=false)(d:CI s[g].toNat=false)(c: ¬(g+1<s.size/\Ly s g=true))(f:Il.contains s[g]=false):Cw (s.data.toList.drop g)=.error 2:=by
 have a:=fun k=>c ((UZ s g h).2 k);obtain⟨j,b⟩:=G6 s g h;have i:s.data.toList.drop (g+1)=j:=by have:=C4 (List.drop 1) b;rw[Uv] at this;exact this
 rw[i] at a;rw[b];simp only[Cw,Ii,Ge,e,d,f,Ae a];rfl
end
theorem Aa8(s:Af)(g:Nat)(b:Ly s g=true):(⟨#[58,61]⟩:Af)=⟨((s.data.toList.drop g).take 2).toArray⟩:=by
 rw[<-JE];have:=b;unfold Ly at this;have a:([58,61]:List UInt8)=(⟨#[58,61]⟩:Af).toList:=by rw[EU]
 rw[a] at this;exact((Lib.bytes_beq_iff _ ⟨#[58,61]⟩).1 this).symm
theorem AfP{w i:World}{base:Nat}{d:TypeId}{size:Nat}{c:Value}{f:Nat}{j:List Value}(h:w.ownsRow base d size c f j)(n: ∀b,c.ownBlock=some b->i.heap[b]? =w.heap[b]?):i.ownsRow base d size c f j:=by
 obtain⟨k,a⟩:=h;refine⟨k,?_⟩;rcases a with a|⟨g,cap,Ad,e,l,m,o⟩
 ·exact .inl a
 ·exact .inr ⟨g,cap,Ad,e,l,by rw[n g (by rw[e];rfl)];exact m,o⟩
def G3(wr:World)(a:Nat)(b:World)(e:List Value):Prop:=
 (∀(c:Nat) d,e[c]? =some d->b.cell? (Ac a c)=some d)/\(∀o,b.frozen? (Ac a o)=false)/\wr.heap.size<=a/\Ay wr b
theorem G3.set{wr j:World}{c:Nat}{e:List Value}(h:G3 wr c j e)(a:Nat)(i:Value)(f:a<e.length):G3 wr c (j.setCell (Ac c a) i) (e.set a i):=
 ⟨fun g k b=>by
  by_cases d:a=g
  ·subst d;rw[Rr f] at b;cases b;exact DW _ _ _ (h.1 a _ (Bb f))
  ·rw[Rq d] at b;rw[Bh _ _ _ _ fun h=>d (C4 Addr.off h)];exact h.1 g k b,
  fun o=>by simp[h.2.1],h.2.2.1,h.2.2.2.setCell h.2.2.1 _⟩
theorem G3.call{wr c f:World}{b:Nat}{a:List Value}(h:G3 wr b c a)(l:a≠[])(d:Ay c f):G3 wr b f a:=by
 obtain⟨i,j⟩:=N3 d
 have e:b<c.heap.size:=by
  cases a with
  |nil=>exact absurd rfl l
  |cons g a=>exact De (h.1 0 g rfl)
 exact⟨fun m n k=>by rw[i _ _ e];exact h.1 m n k,fun o=>by rw[j _ _ e];exact h.2.1 o,h.2.2.1,h.2.2.2.trans (d.mono h.2.2.2.size)⟩
theorem G3.all{wr b:World}{a:Nat}{v0 v1 c d:Value}(h:G3 wr a b [v0,v1,c,d]):(b.cell? (Ac a 0)=some v0/\b.cell? (Ac a 1)=some v1/\b.cell? (Ac a 2)=some c/\b.cell? (Ac a 3)=some d)/\b.frozen? (Ac a 0)=false/\b.frozen? (Ac a 1)=false/\b.frozen? (Ac a 2)=false/\b.frozen? (Ac a 3)=false:=
 ⟨⟨h.1 0 _ rfl,h.1 1 _ rfl,h.1 2 _ rfl,h.1 3 _ rfl⟩,h.2.1 0,h.2.1 1,h.2.1 2,h.2.1 3⟩
def Mz(s:Af)(c:List Az)(g:Nat)(e f:Int)(a:Nat)(d:Af)(b:Az):Prop:=
 1<=a/\g+a<=s.size/\d.size=a/\KD b=[Aa e,Aa f,Aa g,.string d]/\Hb s (c++[b]) (B3 s.data.toList (g+a))=Hb s c g
theorem QY{s:Af}{d:List Az}{g:Nat}{a:TK×Nat×Nat}(h:g<s.size)(b:Cw (s.data.toList.drop g)=.ok a){c f:Int}{e:Af}(i:a.1.r=c)(j:(a.2.2:Int)=f)(k:(FP s.data.toList g a).text=e):Mz s d g c f a.2.1 e (FP s.data.toList g a):=by subst i j k;exact⟨JN (k:=a.1) (n:=a.2.1) (v:=a.2.2) b,by have:=Te b;rw[Hj,Fo] at this;omega,XS s g a b,rfl,Xo s d g a h b⟩
theorem Aa0(a:Af)(w:World):Ah 91 #[.string a,Ar w.heap.size 16 16] (w.alloc (.cells #[.string ⟨#[43]⟩,.string ⟨#[45]⟩,.string ⟨#[42]⟩,.string ⟨#[47]⟩,.string ⟨#[37]⟩,.string ⟨#[61]⟩,.string ⟨#[35]⟩,.string ⟨#[60]⟩,.string ⟨#[62]⟩,.string ⟨#[40]⟩,.string ⟨#[41]⟩,.string ⟨#[91]⟩,.string ⟨#[93]⟩,.string ⟨#[44]⟩,.string ⟨#[59]⟩,.string ⟨#[46]⟩] 9)) fun b c=>b=.returned (.bool (Ho a Nu))/\Ay w c:=
 (UU w.heap.size 16 Nu a (w.alloc (.cells (Nu.map Value.string).toArray 9)) (by decide) (ZI w Nu 9)).mono fun _ _ h=>⟨h.1,by rw[h.2];exact AP⟩
theorem YM(s:Af)(w:World)(al:s.size<=600):
 Ah 66 #[.string s] w fun N bg=>AaT s w N bg:=by
 obtain⟨a3,ae,a0,a1,a2⟩:=info_parts Tryz.infoRTok;go_enter func66,ntmps66;go_wp2;go_loopw [5,6] (fun bf ao wr=> ∃(a:List Az)(q:Nat),q<=s.size/\ao=Aa q/\wr.ownsRow w.heap.size 162 4 bf a.length (DN a)/\Ay w wr/\Hid (Hb s a (B3 s.data.toList q)=DD s.data.toList)/\a.length<=q) (fun _ ao _=>s.size -(intOf ao).toNat)
 case atStart=>exact⟨[],0,B6 _,rfl,World.ownsRow_nil _ _ _ _,Below.refl _ _,Xp s,by simp⟩
 case round=>
  obtain⟨a,q,ay,rfl,u,I,j,bq⟩:=hrel;have ad:=I.size;have bo:B3 s.data.toList q<=s.size:=Sv ay;have bn:=KV s.data.toList q;have p:=fun w=>Ahz s q w ay al;unfold Lh at p;generalize B3 s.data.toList q=g at*;by_cases b:g<s.size
  ·simp only[dif_pos b] at p;by_cases T:s[g].toNat=123
   ·simp only[Ag T] at p;have a5:Hid (DD s.data.toList=.error (2,g)):=by show _=_;rw[<-j.out];exact Ad7 s a g b T
    clear T j u;go_wp2_with(go_at_call 88;refine Aq (p _) ?_);go_ret3;exact⟨I,.inl ⟨2,g,a5.out,rfl⟩⟩
   ·simp only[Ae T] at p;have bb:((g:Int)==s.size)=false:=by simp;omega
    have Z:=Aa0 (s.extract g (g+1));rw[Aa1 s g b] at Z;have ak:=QB s[g].toNat;have aj:=TN s[g].toNat;obtain⟨X,c⟩: ∃X,Dv s[g].toNat=X:=⟨_,rfl⟩;obtain⟨W,d⟩: ∃W,CI s[g].toNat=W:=⟨_,rfl⟩;obtain⟨D,l⟩: ∃D,Il.contains s[g]=D:=⟨_,rfl⟩;rw[c] at ak;rw[d] at aj;rw[l] at Z;have ah:Hid (Dv s[g].toNat=X/\CI s[g].toNat=W/\Il.contains s[g]=D):=⟨c,d,l⟩;clear T c d l;go_upto_block 2 with(first|(go_at_call 88;refine Aq (p _) ?_)|(go_at_call 89;refine Aq (ak _) ?_)|(go_at_call 90;refine Aq (aj _) ?_)|(go_at_call 91;refine(Z _).mono ?_;rintro N ag⟨rfl,ac⟩))
    have aa:G3 wr ag.heap.size (ag.alloc (.cells #[Aa 3,Aa 0,Aa g,.string (s.extract g (g+1))] 162)) [Aa 3,Aa 0,Aa g,.string (s.extract g (g+1))]:=
     ⟨fun bu a4 ae=>by rw[Cl];simpa using ae,fun o=>Gc _ _ _ o,ac.size,ac.alloc ac.size _⟩
    clear p ak aj Z ac;generalize ag.alloc (.cells #[Aa 3,Aa 0,Aa g,.string (s.extract g (g+1))] 162)=a8 at*;generalize ag.heap.size=x at*;obtain⟨c,d,l⟩:=ah.out
    go_cut [] from 14 to 98 (fun bi=> ∃(C e:Int)(f:Nat)(i:Af)(k:Az),G3 wr x bi [Aa C,Aa e,Aa g,.string i]/\Hid (Mz s a g C e f i k))
    case first=>
     have r:Hid (G3 wr x a8 [Aa 3,Aa 0,Aa g,.string (s.extract g (g+1))]):=aa;obtain⟨⟨y,z,A,n⟩,E,F,G,H⟩:=aa.all;clear aa ah u;cases X with
     |true=>
      obtain⟨bv,B,O,ar,au,_⟩:=Aed s g b c;have m:Hid (Mz s a g _ 0 _ _ _):=QY b B O (by rw[ar];rfl) au;have ab:=fun w=>YN s g true w b al c (by simp[FY,c]);have bp:(KH true (s.extract g (DT s g true))==2)=false:=by unfold KH;split<;>simp
      generalize KH true (s.extract g (DT s g true))=C at*;generalize s.extract g (DT s g true)=i at*;clear B O ar au c d l j;go_wp2_with(go_at_call 92;refine(ab _).mono ?_;rintro N aq⟨rfl,R⟩;have K:Hid (G3 wr x aq _):=r.out.call (by simp) R;clear y z A n E F G H R;obtain⟨⟨y,z,A,n⟩,E,F,G,H⟩:=K.out.all);go_meet;exact⟨C,0,_,i,_,(((K.out.set 0 _ (by simp)).set 1 _ (by simp)).set 2 _ (by simp)).set 3 _ (by simp),m⟩
     |false=>
      cases W with
      |true=>
       have B:=Aeb s g b c d;have ab:=fun w=>YN s g false w b al c (by simp[FY,d]);rw[Aea s g b d] at ab;have ax:(s.extract g (DT s g false)).size<=600:=by rw[ByteArray.size_extract];omega
       have av:=fun w=>Agz (s.extract g (DT s g false)) w ax (AbX s g);have bd:KF (s.extract g (DT s g false)).data.toList=min (Em (s.extract g (DT s g false)).data.toList) 2147483648:=rfl;obtain⟨e,az⟩: ∃e:Int,(KF (s.extract g (DT s g false)).data.toList:Int)=e:=⟨_,rfl⟩;simp only[az] at av
       have L:Hid ((2147483647<e->DD s.data.toList=.error (3,g))/\(¬2147483647<e-> ∃f k,Mz s a g 2 e f (s.extract g (DT s g false)) k)):=by
        show _/\_;split at B
        ·exact⟨fun _=>by rw[<-j.out];exact Qb s a g 3 b B,fun h=>absurd (by unfold Hv at*;omega) h⟩
        ·exact⟨fun h=>absurd h (by unfold Hv at*;omega),fun _=>⟨_,_,QY b B rfl (by show((Em _:Nat):Int)=_;unfold Hv at*;omega) (by rw[QI,JE];rfl)⟩⟩
       clear B bd ax c d l j az;generalize s.extract g (DT s g false)=i at*;by_cases bk:2147483647<e
       all_goals
        go_wp2_with(first|(go_at_call 92;refine(ab _).mono ?_;rintro N aq⟨rfl,R⟩;have K:Hid (G3 wr x aq _):=r.out.call (by simp) R;clear y z A n E F G H R;obtain⟨⟨y,z,A,n⟩,E,F,G,H⟩:=K.out.all)|(go_at_call 93;refine(av _).mono ?_;rintro N bh⟨rfl,Y⟩;have ai:Hid (G3 wr x bh [Aa 2,Aa 0,Aa g,.string i]):=Y▸(((K.out.set 0 _ (by simp)).set 1 _ (by simp)).set 2 _ (by simp)).set 3 _ (by simp);clear y z A n E F G H Y;obtain⟨⟨y,z,A,n⟩,E,F,G,H⟩:=ai.out.all))
       ·go_ret3;exact⟨I.trans ((ai.out.set 1 _ (by simp)).2.2.2.mono ad),.inl ⟨3,g,L.out.1 (by omega),rfl⟩⟩
       ·go_meet;obtain⟨f,k,h⟩:=L.out.2 (by omega);exact⟨2,e,f,i,k,ai.out.set 1 _ (by simp),h⟩
      |false=>
       by_cases t:g+1<s.size/\Ly s g=true
       ·have m:Hid (Mz s a g 3 0 _ ⟨#[58,61]⟩ _):=QY b (Ad8 s g b t).1 rfl rfl (Aa8 s g t.2).symm;have a9:((s.extract g (g+2)).toList==[58,61])=true:=t.2;have O:=t.1;clear t c d l j;go_wp2_with fail;go_meet;exact⟨3,0,_,_,_,r.out.set 3 _ (by simp),m⟩
       ·have L:Hid (if D then∃f k,Mz s a g 3 0 f (s.extract g (g+1)) k else DD s.data.toList=.error (2,g)):=by
         show if D then _ else _;subst l;split
         ·rename_i an;exact⟨_,_,QY b (Aec s g b c d an) rfl rfl (by rw[JE];rfl)⟩
         ·rename_i an;rw[<-j.out];exact Qb s a g 2 b (Ad9 s g b c d t (by simpa using an))
        by_cases O:g+1<s.size
        focus have a9:((s.extract g (g+2)).toList==[58,61])=false:=Bool.eq_false_iff.2 fun h=>t ⟨O,h⟩
        all_goals
         clear t c d l j;cases D
         ·go_wp2_with fail;go_ret3;exact⟨I.trans (r.out.2.2.2.mono ad),.inl ⟨2,g,L.out,rfl⟩⟩
         ·go_wp2_with fail;go_meet;obtain⟨f,k,h⟩:=L.out;exact⟨3,0,f,_,k,r.out,h⟩
    case rest=>
     obtain⟨C,e,f,i,k,Q,m⟩:=hcut;obtain⟨br,bc,be,_,_⟩:=m.out;obtain⟨⟨y,z,A,n⟩,_⟩:=Q.all;have bl:=Q.2.2.2.size;have ba:=De n;have bt:(i.size:Int)=f:=by omega
     have r:Hid (G3 wr x wc _):=Q;have a7:Hid (wc.ownsRow w.heap.size 162 4 _ a.length (DN a)):=AfP u fun af S=>Q.2.2.2.block af (u.lt af S).2;clear aa Q ah be c d l
     go_wp2_with(first
      |(at_builtin;refine wpList_append_own _ rfl _ _ 120 rfl w.heap.size 162 a3 _ 4 40 underlying120 ae a0 a1 a2 rfl (by decide) _ a.length (DN a) rfl (a7.out.alloc _) (Ac _ 0) 1 1 [Aa C,Aa e,Aa g,.string i] rfl rfl (Py _ _ _ _ _ _) ?a1 ?a63 ?aby ?abase ?ah
        case a1=>intro a4 V;simp at V;rcases V with rfl|rfl|rfl|rfl<;>rfl
        case a63=>unfold maxLen;omega
        case aby=>omega
        case abase=>simp;omega
        intro ap v U J am;have bm:v.cell? (Ac x 3)=some (.string i):=J.cell (by rw[EW _ _ _ ba];exact n) (fun h=>by have Y:=(u.lt _ h.symm).2;have bj:=r.out.2.2.1;simp at Y;omega);have P:Ay w v:=Below.grown ((I.trans (r.out.2.2.2.mono ad)).alloc (by omega) _) J (by simp;omega) (fun af S=>(u.lt _ S).1);have M:Aside (v.ownsRow w.heap.size 162 4 ap (a.length+1) (DN a++[Aa C,Aa e,Aa g,.string i])/\Ay w v):=⟨U,P⟩
        clear U J am P))
     go_roundw
     case rel=>exact⟨a++[k],g+f,bc,by go_num,by rw[Z9,AG,m.out.2.2.2.1];exact M.out.1,M.out.2,m.out.2.2.2.2.trans j.out,by rw[AG];simp;omega⟩
     case measure=>simp[intOf];omega
  ·simp only[dif_neg b] at p;have bb:((g:Int)==s.size)=true:=by simp;omega
   have aw:g=s.size:=by omega
   have a6:Hid (DD s.data.toList=.ok (a++[L0 s.data.toList])):=by show _=_;rw[<-j.out];exact Xn s a g b
   have m:Hid (KD (L0 s.data.toList)=[Aa 4,Aa 0,Aa g,.string ⟨#[]⟩]):=by show _=_;rw[aw];rfl
   clear j aw
   go_wp2_with(first
    |(go_at_call 88;refine Aq (p _) ?_)
    |(at_builtin;refine wpList_append_own _ rfl _ _ 120 rfl w.heap.size 162 a3 _ 4 40 underlying120 ae a0 a1 a2 rfl (by decide) _ a.length (DN a) rfl (u.alloc _) (Ac _ 0) 1 1 [Aa 4,Aa 0,Aa g,.string ⟨#[]⟩] rfl rfl (Py _ _ _ _ _ _) ?e1 ?e63 ?eby ?ebase ?eh
      case e1=>intro a4 V;simp at V;rcases V with rfl|rfl|rfl|rfl<;>rfl
      case e63=>unfold maxLen;omega
      case eby=>omega
      case ebase=>simp;omega
      intro ap v U J am;have P:Ay w v:=Below.grown (I.alloc ad _) J (by simp;omega) (fun af S=>(u.lt _ S).1);have M:Aside (v.ownsRow w.heap.size 162 4 ap (a.length+1) (DN a++[Aa 4,Aa 0,Aa g,.string ⟨#[]⟩])/\Ay w v):=⟨U,P⟩
      clear U J am P))
   go_ret3;exact⟨M.out.2,.inr ⟨_,_,a6.out,rfl,by rw[Z9,AG,m.out];exact M.out.1⟩⟩
