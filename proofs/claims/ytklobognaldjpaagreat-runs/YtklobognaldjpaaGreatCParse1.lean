/- What package scan does, further: words, numbers, signs. What -/
import Derived.Test.YtklobognaldjpaaGreatCScan
import Derived.Deep.LoopGhost
import Derived.BigQuiet
import Derived.Deep.QuietTactic
import Derived.BigRegion
set_option maxHeartbeats 2000000
set_option maxRecDepth 1000000
namespace Go.Proofs.YtklobognaldjpaaGreat
open Go.Proofs.Tryz
open Go.RowKit
def Kh(s:Af):Bool:=Ha.contains s.toList
theorem Ou(s:Af)(w:World):
 Ah 163 #[.string s] w fun a b=>a=.returned (.bool (Kh s))/\b=w:=by
 go_enter func163,ntmps163;go_wp2;all_goals go_ret
 all_goals refine⟨?_,rfl⟩
 all_goals go_light
 all_goals congr 2
 all_goals simp only[Kh,Ha,Pg, *]
 all_goals first|rfl|simp_all
theorem QX{g:Type}(p:g->Bool): ∀(a:List g)(k:Nat),k<=a.length->(∀b(_:b<k)(j:b<a.length),p a[b]=true)->(∀(h:k<a.length),p a[k]=false)->(a.takeWhile p).length=k
 |[],k,c,_,_=>by simp at c;simp[c]
 |i::a,0,_,_,d=>by have:=d (by simp);simp at this;simp[this]
 |i::a,k+1,c,e,d=>by have f:=e 0 (by omega) (by simp);simp at f;have l:=QX p a k (by simp at c;omega) (fun b h j=>by have:=e (b+1) (by omega) (by simp;omega);simpa using this) (fun h=>by have:=d (by simp;omega);simpa using this);simp[f,l]
def KG(a:Int):Bool:=Dv a||CI a
theorem AaC(a:Af)(k:Nat)(e:k<=a.size)(c: ∀b(h:b<a.size),b<k->KG a[b].toNat=true)(d: ∀(h:k<a.size),KG a[k].toNat=false):GW a.data.toList=k:=by
 refine QX _ a.data.toList k e (fun b h f=> ?_) (fun h=> ?_)
 ·exact c b f h
 ·exact d h
def IV(b:Af)(p a:Nat):Value:=.agg #[Aa (if Kh (b.extract 0 a) then 3 else 1),.string (b.extract 0 a),Aa 0,Aa p]
abbrev Ay(w a:World):Prop:=Below w.heap.size w a
theorem AP{w:World}{o:Obj}:Below w.heap.size w (w.alloc o):=(Below.refl _ _).alloc (AA _) _
theorem Age(a:Af)(p:Nat)(w:World)(v:0<a.size)(y:a.size<=600)(n:KG a[0].toNat=true):
 Ah 138 #[.string a,Aa p] w fun b c=>b=.returned (IV a p (GW a.data.toList))/\Ay w c:=by
 go_enter func138,ntmps138;go_wp2;go_loop [5] (fun t=> ∃k:Nat,1<=k/\k<=a.size/\t=Aa k/\ ∀d(h:d<a.size),d<k->KG a[d].toNat=true) (fun t=>a.size -(intOf t).toNat)
 case atStart=>exact⟨1,by omega,by omega,rfl,fun d h o=>by have:d=0:=by omega
                                                           subst this;exact n⟩
 case round=>
  obtain⟨k,x,q,rfl,m⟩:=hrel;have g:Hid (∀d(h:d<a.size),d<k->KG a[d].toNat=true):=m;clear m n;by_cases u:k<a.size
  ·by_cases i:Dv a[k].toNat=true
   ·go_wp2_with(first|(go_at_call 137;refine(L9 _ _).mono ?_;rintro b c⟨rfl,rfl⟩)|(go_at_call 139;refine(Jp _ _).mono ?_;rintro b c⟨rfl,rfl⟩))
    go_round
    case rel=>exact⟨k+1,by omega,by omega,by go_num,fun d h o=>by
     by_cases b:d=k
     ·subst b;simp only[KG,i,Bool.true_or]
     ·exact g.out d h (by omega)⟩
    case measure=>simp[intOf];omega
   ·have r:Dv a[k].toNat=false:=by simpa using i
    clear i;by_cases j:CI a[k].toNat=true
    ·go_wp2_with(first|(go_at_call 137;refine(L9 _ _).mono ?_;rintro b c⟨rfl,rfl⟩)|(go_at_call 139;refine(Jp _ _).mono ?_;rintro b c⟨rfl,rfl⟩)|(go_at_call 163;refine(Ou _ _).mono ?_;rintro b c⟨rfl,rfl⟩))
     go_round
     case rel=>exact⟨k+1,by omega,by omega,by go_num,fun d h o=>by
      by_cases b:d=k
      ·subst b;simp only[KG,j,Bool.or_true]
      ·exact g.out d h (by omega)⟩
     case measure=>simp[intOf];omega
    ·have s:CI a[k].toNat=false:=by simpa using j
     clear j;have f:Hid (GW a.data.toList=k):=AaC a k q g.out (fun h=>by simp[KG,r,s]);by_cases e:Kh (a.extract 0 k)=true
     ·go_wp2_with(first|(go_at_call 137;refine(L9 _ _).mono ?_;rintro b c⟨rfl,rfl⟩)|(go_at_call 139;refine(Jp _ _).mono ?_;rintro b c⟨rfl,rfl⟩)|(go_at_call 163;refine(Ou _ _).mono ?_;rintro b c⟨rfl,rfl⟩));refine bodyPost_ret (v:=IV a p k) (by simp[results,results138,go_sem,IV,e]) rfl ⟨by rw[f.out],?_⟩;exact AP.alloc (by simp) _
     ·have l:Kh (a.extract 0 k)=false:=by simpa using e
      clear e;go_wp2_with(first|(go_at_call 137;refine(L9 _ _).mono ?_;rintro b c⟨rfl,rfl⟩)|(go_at_call 139;refine(Jp _ _).mono ?_;rintro b c⟨rfl,rfl⟩)|(go_at_call 163;refine(Ou _ _).mono ?_;rintro b c⟨rfl,rfl⟩));refine bodyPost_ret (v:=IV a p k) (by simp[results,results138,go_sem,IV,l]) rfl ⟨by rw[f.out],?_⟩;exact AP.alloc (by simp) _
  ·have f:Hid (GW a.data.toList=k):=AaC a k q g.out (fun h=>absurd h u);by_cases e:Kh (a.extract 0 k)=true
   ·go_wp2_with(first|(go_at_call 137;refine(L9 _ _).mono ?_;rintro b c⟨rfl,rfl⟩)|(go_at_call 139;refine(Jp _ _).mono ?_;rintro b c⟨rfl,rfl⟩)|(go_at_call 163;refine(Ou _ _).mono ?_;rintro b c⟨rfl,rfl⟩));refine bodyPost_ret (v:=IV a p k) (by simp[results,results138,go_sem,IV,e]) rfl ⟨by rw[f.out],?_⟩;exact AP.alloc (by simp) _
   ·have l:Kh (a.extract 0 k)=false:=by simpa using e
    clear e;go_wp2_with(first|(go_at_call 137;refine(L9 _ _).mono ?_;rintro b c⟨rfl,rfl⟩)|(go_at_call 139;refine(Jp _ _).mono ?_;rintro b c⟨rfl,rfl⟩)|(go_at_call 163;refine(Ou _ _).mono ?_;rintro b c⟨rfl,rfl⟩));refine bodyPost_ret (v:=IV a p k) (by simp[results,results138,go_sem,IV,l]) rfl ⟨by rw[f.out],?_⟩;exact AP.alloc (by simp) _
theorem Aag(b:List UInt8)(a:UInt8):Em (b++[a])=10*Em b+(a.toNat -48):=by simp[Em,List.foldl_append]
theorem Ai6(b:List UInt8): ∀a:Nat,a<=b.foldl (fun a d=>10*a+(d.toNat -48)) a:=by
 induction b with
 |nil=>intro a;exact AA _
 |cons c b e=>intro a;have:=e (10*a+(c.toNat -48));simp only[List.foldl_cons];omega
theorem Ai8(a b:List UInt8):Em a<=Em (a++b):=by unfold Em;rw[List.foldl_append];exact Ai6 b _
theorem Z5(s:Af)(k:Nat)(h:k<s.size):s.data.toList.take (k+1)=s.data.toList.take k++[s[k]]:=by rw[NS (by exact h)];rfl
theorem VD(a:Af)(k:Nat)(e:k<=a.size)(c: ∀b(h:b<a.size),b<k->CI a[b].toNat=true)(d: ∀(h:k<a.size),CI a[k].toNat=false):Dl a.data.toList=k:=by
 refine QX _ a.data.toList k e (fun b h f=> ?_) (fun h=> ?_)
 ·exact c b f h
 ·exact d h
theorem Z4{f:Type}(p:f->Bool): ∀(a:List f)(k:Nat),k<=a.length->(∀b(_:b<k)(g:b<a.length),p a[b]=true)->k<=(a.takeWhile p).length
 |_,0,_,_=>B6 _
 |[],k+1,c,_=>by simp at c
 |j::a,k+1,c,d=>by have e:=d 0 (by omega) (by simp);simp at e;have i:=Z4 p a k (by simp at c;omega) (fun b h g=>by have:=d (b+1) (by omega) (by simp;omega);simpa using this);simp[e,i]
theorem Ai9(a:Af)(k:Nat)(d:k<=a.size)(c: ∀b(h:b<a.size),b<k->CI a[b].toNat=true):Em (a.data.toList.take k)<=Em (a.data.toList.take (Dl a.data.toList)):=by
 have f:k<=Dl a.data.toList:=Z4 _ _ k d (fun b h e=>c b e h);have:a.data.toList.take (Dl a.data.toList)=a.data.toList.take k++(a.data.toList.drop k).take (Dl a.data.toList -k):=by rw[<-List.take_add];congr 1;omega
 rw[this];exact Ai8 _ _
def Ni(a:Af)(p:Nat):Value:=
 .agg #[Aa 2,.string (a.extract 0 (Dl a.data.toList)),Aa (Em (a.data.toList.take (Dl a.data.toList))),Aa p]
def NF:Value:=.agg #[Aa 0,.string ⟨#[]⟩,Aa 0,Aa 0]
def IP(a:Af)(p:Nat):Value:=if Em (a.data.toList.take (Dl a.data.toList))>Hv then .tuple #[NF,Aa 3] else .tuple #[Ni a p,Aa 0]
theorem SJ(a:Int):CI a=true↔48<=a/\a<=57:=by simp[CI]
theorem Agc(a:Af)(p:Nat)(w:World)(D:a.size<=600):
 Ah 140 #[.string a,Aa p] w fun c f=>
  c=.returned (IP a p)/\Ay w f:=by
 go_enter func140,ntmps140;go_wp2;go_loop [6,7] (fun t x=> ∃k v:Nat,k<=a.size/\v<=2147483647/\t=Aa k/\x=Aa v/\v=Em (a.data.toList.take k)/\ ∀b(h:b<a.size),b<k->CI a[b].toNat=true) (fun t _=>a.size -(intOf t).toNat)
 case atStart=>exact⟨0,0,by omega,by omega,rfl,rfl,rfl,fun b h n=>absurd n (Nat.not_lt_zero _)⟩
 case round=>
  obtain⟨k,v,o,E,rfl,rfl,r,m⟩:=hrel;have i:Hid (∀b(h:b<a.size),b<k->CI a[b].toNat=true):=m;have e:Hid (v=Em (a.data.toList.take k)):=r;clear m r;by_cases q:k<a.size
  ·by_cases g:CI a[k].toNat=true
   ·have s:=(SJ _).1 g;obtain⟨A,B⟩:=s;have l:Hid (Em (a.data.toList.take (k+1))=10*v+(a[k].toNat -48)):=by show _=_;rw[Z5 a k q,Aag,e.out]
    have j:Hid (∀b(h:b<a.size),b<k+1->CI a[b].toNat=true):=fun b h n=>by
     by_cases c:b=k
     ·subst c;exact g
     ·exact i.out b h (by omega)
    by_cases C:(2147483647:Int)<v*10+(a[k].toNat -48)
    ·go_wp2_with(go_at_call 139;refine(Jp _ _).mono ?_;rintro c f⟨rfl,rfl⟩);refine bodyPost_ret (v:=.tuple #[NF,Aa 3]) (by simp[results,results140,go_sem,NF]) rfl ⟨?_,AP⟩;have y:=Ai9 a (k+1) (by omega) j.out;have z:=l.out;rw[IP,Ag (by unfold Hv;omega)]
    ·go_wp2_with(go_at_call 139;refine(Jp _ _).mono ?_;rintro c f⟨rfl,rfl⟩)
     go_round
     case rel=>exact⟨k+1,10*v+(a[k].toNat -48),by omega,by omega,by go_num,by go_num,l.out.symm,j.out⟩
     case measure=>simp[intOf];omega
   ·have u:CI a[k].toNat=false:=by simpa using g
    clear g;have d:Hid (Dl a.data.toList=k):=VD a k o i.out (fun h=>u);go_wp2_with(go_at_call 139;refine(Jp _ _).mono ?_;rintro c f⟨rfl,rfl⟩);refine bodyPost_ret (v:=.tuple #[Ni a p,Aa 0]) (by simp[results,results140,go_sem,Ni,d.out,<-e.out]) rfl ⟨?_,AP⟩;rw[IP,Ae (by rw[d.out,<-e.out];unfold Hv;omega)]
  ·have d:Hid (Dl a.data.toList=k):=VD a k o i.out (fun h=>absurd h q);go_wp2_with(go_at_call 139;refine(Jp _ _).mono ?_;rintro c f⟨rfl,rfl⟩);refine bodyPost_ret (v:=.tuple #[Ni a p,Aa 0]) (by simp[results,results140,go_sem,Ni,d.out,<-e.out]) rfl ⟨?_,AP⟩;rw[IP,Ae (by rw[d.out,<-e.out];unfold Hv;omega)]
theorem AhB(s p:Af)(w:World):
 Ah 186 #[.string s,.string p] w fun a b=>a=.returned (.bool (Lib.hasPrefix s.data.toList p.data.toList))/\b=w:=by
 rw[<-Lib.hasPrefix_of_take,<-Lib.size_eq,<-Lib.size_eq];go_enter func186,ntmps186;go_wp2
 ·rename_i h;go_ret;refine⟨?_,rfl⟩;show Ending.returned (Value.bool ((s.extract 0 p.size).toList==p.toList))=_;rw[Lib.extract_toList,EU];simp[h]
 ·rename_i h;go_ret;refine⟨?_,rfl⟩;show Ending.returned (Value.bool false)=_;simp[h]
theorem Ac5(s p:Af)(w:World):
 Ah 164 #[.string s,.string p] w fun a b=>a=.returned (.bool (Lib.hasPrefix s.data.toList p.data.toList))/\b=w:=by
 go_enter func164,ntmps164;go_wp2_with(go_at_call 186;refine(AhB _ _ _).mono ?_;rintro a b⟨rfl,rfl⟩);go_ret;exact⟨rfl,rfl⟩
def Jq(b:List UInt8):Nat:=
 match b with
 |[]=>0
 |a::c=>if Il.contains a then 1 else if a=58/\c.head?=some 61 then 2 else 0
theorem Ahs(a:List UInt8):Jq a<=a.length:=by
 unfold Jq;split
 ·simp
 ·rename_i d b;split
  ·simp
  ·split
   ·rename_i c;cases b with
    |nil=>simp at c
    |cons e b=>simp
   ·omega
def Pt(s:Af):Bool:=Lib.hasPrefix s.data.toList [58,61]
theorem Ac6(s:Af)(w:World):
 Ah 164 #[.string s,.string ⟨#[58,61]⟩] w fun a b=>a=.returned (.bool (Pt s))/\b=w:=Ac5 s ⟨#[58,61]⟩ w
theorem Aa9(d:UInt8)(a:List UInt8):Lib.hasPrefix (d::a) [58,61]=decide (d=58/\a.head?=some 61):=by
 rw[Uq];cases a with
 |nil=>simp[Lib.hasPrefix]
 |cons e a=>
  simp only[Lib.hasPrefix,List.isPrefixOf,Bool.and_true,NG,N4,PE,List.head?_cons,Pl];constructor
  ·rintro⟨b,c⟩;exact⟨b.symm,c.symm⟩
  ·rintro⟨b,c⟩;exact⟨b.symm,c.symm⟩
theorem Aht(s:Af)(b:0<s.size):Jq s.data.toList=if s[0].toNat∈[43,45,42,47,37,61,35,60,62,40,41,91,93,44,59,46] then 1 else if Pt s=true then 2 else 0:=by
 obtain⟨c,a⟩:=Wq s b;unfold Pt;rw[a,Aa9];simp only[Jq,PE];have:(Il.contains s[0]=true)↔s[0].toNat∈[43,45,42,47,37,61,35,60,62,40,41,91,93,44,59,46]:=by simp only[Il,Pg,List.contains_nil,Bool.or_false,Bool.or_eq_true,N4,N7,C0,I0,Jl];rfl
 simp only[this]
theorem Ahq(s:Af)(w:World)(d:0<s.size):
 Ah 141 #[.string s] w fun b c=>b=.returned (Aa (Jq s.data.toList))/\c=w:=by
 have a:Hid (Jq s.data.toList=if s[0].toNat∈[43,45,42,47,37,61,35,60,62,40,41,91,93,44,59,46] then 1 else if Pt s=true then 2 else 0):=Aht s d;go_enter func141,ntmps141;go_wp2_with(go_at_call 164;refine(Ac6 _ _).mono ?_;rintro b c⟨rfl,rfl⟩);all_goals go_ret
 all_goals refine⟨L7 ?_,rfl⟩
 all_goals go_light
 all_goals rw[a.out]
 all_goals clear a
 all_goals simp only[N4,beq_eq_false_iff_ne,C0,I0,Jl] at*
 all_goals repeat' split
 all_goals first|omega|simp_all
def TK.p:TK->Int|.over=>0|.name=>1|.number=>2|.sign=>3|.keyword=>3
def Ue(t:Az):Value:=.agg #[Aa t.kind.p,.string t.text,Aa t.val,Aa t.pos]
def GU(s:Af)(p:Nat):Value:=
 match Cw (s.data.toList.drop p) with
 |.error a=>.tuple #[NF,Aa a]
 |.ok b=>.tuple #[Ue (FP s.data.toList p b),Aa 0]
theorem Sk(b:Af)(a:Nat):b.extract 0 a=⟨(b.data.toList.take a).toArray⟩:=by apply ByteArray.ext;apply Array.toList_inj.1;simp only[Ur,Uo,Uw,List.drop_zero,Nat.sub_zero]
section
variable(s:Af)(p:Nat)(U:p<s.size)
include s p U
theorem G6: ∃t,s.data.toList.drop p=s[p]::t:=
 ⟨_,NN (by exact U)⟩
theorem Sj(h:0<(s.extract p s.size).size):(s.extract p s.size)[0]=s[p]:=by
 have:(s.extract p s.size)[0]=(s.extract p s.size).data.toList[0]'(by exact h):=rfl;rw[this];have a:(s.extract p s.size).data.toList[0]? =some s[p]:=by rw[Kc];obtain⟨t,c⟩:=G6 s p U;rw[c];rfl
 have b:0<(s.extract p s.size).data.toList.length:=h;rw[Bb b] at a;exact FH a
theorem AiU(a:Dv s[p].toNat=true):
 GU s p=.tuple #[IV (s.extract p s.size) p (GW (s.data.toList.drop p)),Aa 0]:=by
 obtain⟨t,b⟩:=G6 s p U;have c:Cw (s.data.toList.drop p)=.ok (if Ha.contains ((s.data.toList.drop p).take (GW (s.data.toList.drop p))) then .keyword else .name,GW (s.data.toList.drop p),0):=by rw[b];simp only[Cw,Ii,a,Hr]
 simp only[GU,c,FP,Ue,IV,Kh,Sk,Kc,EU];split<;>simp_all[TK.p]
theorem AiS(d:Dv s[p].toNat=false)(c:CI s[p].toNat=true):
 GU s p=IP (s.extract p s.size) p:=by
 obtain⟨t,e⟩:=G6 s p U;have b:Cw (s.data.toList.drop p)=if Em ((s.data.toList.drop p).take (Dl (s.data.toList.drop p)))>Hv then .error 3 else .ok (.number,Dl (s.data.toList.drop p),Em ((s.data.toList.drop p).take (Dl (s.data.toList.drop p)))):=by rw[e];simp only[Cw,Ii,Ge,d,c,Hr];rfl
 by_cases a:Em ((s.data.toList.drop p).take (Dl (s.data.toList.drop p)))>Hv
 ·rw[Ag a] at b;simp only[GU,b,IP,Kc,Ag a];rfl
 ·rw[Ae a] at b;simp only[GU,b,IP,Ni,Kc,Sk,Ae a];rfl
theorem AiT(d:Dv s[p].toNat=false)(c:CI s[p].toNat=false)(b:Nat)(a:Jq (s.data.toList.drop p)=b)(g: ¬b=0):
 GU s p=.tuple #[.agg #[Aa 3,.string ((s.extract p s.size).extract 0 b),Aa 0,Aa p],Aa 0]:=by
 obtain⟨t,e⟩:=G6 s p U
 have f:Cw (s.data.toList.drop p)=.ok (.sign,b,0):=by
  rw[e] at a⊢;simp only[Cw,Ii,Ge,d,c,Jq] at a⊢;split at a
  ·simp_all
  ·split at a
   ·simp_all
   ·omega
 simp only[GU,f,Sk,Kc,Ue,FP,TK.p];rfl
theorem AiR(c:Dv s[p].toNat=false)(b:CI s[p].toNat=false)(a:Jq (s.data.toList.drop p)=0):
 GU s p=.tuple #[NF,Aa 2]:=by
 obtain⟨t,d⟩:=G6 s p U
 have e:Cw (s.data.toList.drop p)=.error 2:=by
  rw[d] at a⊢;simp only[Cw,Ii,Ge,c,b,Jq] at a⊢;split at a
  ·omega
  ·split at a
   ·omega
   ·simp_all
 simp only[GU,e];rfl
end
def Me(s:Af)(p:Nat):Nat:=GW (s.data.toList.drop p)
def Ma(s:Af)(p:Nat):Nat:=Jq (s.data.toList.drop p)
section
variable(s:Af)(p:Nat)
include s p
theorem Agf(w:World)(U:p<s.size)(e:s.size<=600)(c:Dv s[p].toNat=true):
 Ah 138 #[.string (s.extract p s.size),Aa p] w fun b d=>b=.returned (IV (s.extract p s.size) p (Me s p))/\Ay w d:=by
 have a:0<(s.extract p s.size).size:=by rw[Kd];omega
 have h:=Age (s.extract p s.size) p w a (by rw[Kd];omega) (by rw[Sj s p U a];simp[KG,c]);rw[Kc] at h;exact h
theorem Agd(w:World)(c:s.size<=600):
 Ah 140 #[.string (s.extract p s.size),Aa p] w fun a b=>a=.returned (IP (s.extract p s.size) p)/\Ay w b:=
 Agc (s.extract p s.size) p w (by rw[Kd];omega)
theorem Ahr(w:World)(U:p<s.size):
 Ah 141 #[.string (s.extract p s.size)] w fun a c=>a=.returned (Aa (Ma s p))/\c=w:=by
 have b:0<(s.extract p s.size).size:=by rw[Kd];omega
 have h:=Ahq (s.extract p s.size) w b;rw[Kc] at h;exact h
theorem Wy(a:Bool)(c:0<(s.extract p s.size).size)(U:p<s.size)(d:Dv s[p].toNat=a)(w:World):
 Ah 137 #[.int .u8 ((s.extract p s.size)[0].toNat:Nat)] w fun b e=>b=.returned (.bool a)/\e=w:=by
 rw[Sj s p U c,<-d];exact L9 _ _
theorem Wx(a:Bool)(c:0<(s.extract p s.size).size)(U:p<s.size)(d:CI s[p].toNat=a)(w:World):
 Ah 139 #[.int .u8 ((s.extract p s.size)[0].toNat:Nat)] w fun b e=>b=.returned (.bool a)/\e=w:=by
 rw[Sj s p U c,<-d];exact Jp _ _
end
theorem N3{b c:World}(d:Ay b c):(∀a o,a<b.heap.size->c.cell? (Ac a o)=b.cell? (Ac a o))/\(∀a o,a<b.heap.size->c.frozen? (Ac a o)=b.frozen? (Ac a o)):=
 ⟨fun a o h=>d.cell (p:=Ac a o) h,fun a o h=>d.frozen (p:=Ac a o) h⟩
def SZ(b:Af)(a:Nat):Int:=if Kh (b.extract 0 a) then 3 else 1
theorem YI(s:Af)(p:Nat)(w:World)(U:p<s.size)(v:s.size<=600):
 Ah 118 #[.string s,Aa p] w fun a b=>a=.returned (GU s p)/\Ay w b:=by
 have k:0<(s.extract p s.size).size:=by rw[Kd];omega
 cases c:Dv s[p].toNat with
 |true=>
  have n:Hid (GU s p=.tuple #[.agg #[Aa (SZ (s.extract p s.size) (Me s p)),.string ((s.extract p s.size).extract 0 (Me s p)),Aa 0,Aa p],Aa 0]):=AiU s p U c;have g:=Wy s p true k U c;have x: ∀w,Ah 138 #[.string (s.extract p s.size),Aa p] w fun a b=>a=.returned (.agg #[Aa (SZ (s.extract p s.size) (Me s p)),.string ((s.extract p s.size).extract 0 (Me s p)),Aa 0,Aa p])/\Ay w b:=fun w=>Agf s p w U v c;generalize SZ (s.extract p s.size) (Me s p)=z at*;generalize(s.extract p s.size).extract 0 (Me s p)=r at*;clear c;go_enter func118,ntmps118;go_wp2_with(first|(go_at_call 137;refine(g _).mono ?_;rintro a b⟨rfl,rfl⟩)|(go_at_call 138;refine(x _).mono ?_;rintro a b⟨rfl,d⟩;obtain⟨j,t⟩:=N3 d));refine bodyPost_ret (v:=.tuple #[.agg #[Aa z,.string r,Aa 0,Aa p],Aa 0]) (by simp[results,results118,go_sem,j]) rfl ⟨by rw[n.out],?_⟩;exact(((((AP.trans (d.mono (by simp))).setCell (by simp) _).setCell (by simp) _).setCell (by simp) _).setCell (by simp) _)
 |false=>
  have g:=Wy s p false k U c;cases e:CI s[p].toNat with
  |true=>
   have i:=Wx s p true k U e;have f:=AiS s p U c e;have l:=fun w=>Agd s p w v;clear c e;by_cases m:Em ((s.extract p s.size).data.toList.take (Dl (s.extract p s.size).data.toList))>Hv
   ·have h:IP (s.extract p s.size) p=.tuple #[.agg #[Aa 0,.string ⟨#[]⟩,Aa 0,Aa 0],Aa 3]:=by unfold IP;rw[Ag m];rfl
    rw[f];rw[h] at l⊢;clear f h m;go_enter func118,ntmps118;go_wp2_with(first|(go_at_call 137;refine(g _).mono ?_;rintro a b⟨rfl,rfl⟩)|(go_at_call 139;refine(i _).mono ?_;rintro a b⟨rfl,rfl⟩)|(go_at_call 140;refine(l _).mono ?_;rintro a b⟨rfl,d⟩;obtain⟨j,t⟩:=N3 d));refine bodyPost_ret (v:=.tuple #[.agg #[Aa 0,.string ⟨#[]⟩,Aa 0,Aa 0],Aa 3]) (by simp[results,results118,go_sem,j]) rfl ⟨rfl,?_⟩;exact(((((AP.trans (d.mono (by simp))).setCell (by simp) _).setCell (by simp) _).setCell (by simp) _).setCell (by simp) _)
   ·have h:IP (s.extract p s.size) p=.tuple #[.agg #[Aa 2,.string ((s.extract p s.size).extract 0 (Dl (s.extract p s.size).data.toList)),Aa (Em ((s.extract p s.size).data.toList.take (Dl (s.extract p s.size).data.toList))),Aa p],Aa 0]:=by unfold IP;rw[Ae m];rfl
    rw[f];rw[h] at l⊢;clear f h m;generalize(s.extract p s.size).extract 0 (Dl (s.extract p s.size).data.toList)=r at*;generalize Em ((s.extract p s.size).data.toList.take (Dl (s.extract p s.size).data.toList))=B at*;go_enter func118,ntmps118;go_wp2_with(first|(go_at_call 137;refine(g _).mono ?_;rintro a b⟨rfl,rfl⟩)|(go_at_call 139;refine(i _).mono ?_;rintro a b⟨rfl,rfl⟩)|(go_at_call 140;refine(l _).mono ?_;rintro a b⟨rfl,d⟩;obtain⟨j,t⟩:=N3 d));refine bodyPost_ret (v:=.tuple #[.agg #[Aa 2,.string r,Aa B,Aa p],Aa 0]) (by simp[results,results118,go_sem,j]) rfl ⟨rfl,?_⟩;exact(((((AP.trans (d.mono (by simp))).setCell (by simp) _).setCell (by simp) _).setCell (by simp) _).setCell (by simp) _)
  |false=>
   have i:=Wx s p false k U e;have o:=fun w=>Ahr s p w U;have u:Ma s p<=(s.extract p s.size).size:=by have:=Ahs (s.data.toList.drop p);rw[Hj,Fo] at this;rw[Kd];exact this
   have y:(Ma s p:Int)<=(s.size:Int) -p:=by rw[Kd] at u;omega
   by_cases q:Ma s p=0
   ·have f:=AiR s p U c e q;rw[f,NF];rw[q] at o;clear f c e u y;go_enter func118,ntmps118;go_wp2_with(first|(go_at_call 137;refine(g _).mono ?_;rintro a b⟨rfl,rfl⟩)|(go_at_call 139;refine(i _).mono ?_;rintro a b⟨rfl,rfl⟩)|(go_at_call 141;refine(o _).mono ?_;rintro a b⟨rfl,rfl⟩));refine bodyPost_ret (v:=.tuple #[.agg #[Aa 0,.string ⟨#[]⟩,Aa 0,Aa 0],Aa 2]) (by simp[results,results118,go_sem]) rfl ⟨rfl,?_⟩;exact AP
   ·have n:Hid (GU s p=.tuple #[.agg #[Aa 3,.string ((s.extract p s.size).extract 0 (Ma s p)),Aa 0,Aa p],Aa 0]):=AiT s p U c e _ rfl q;have C:((Ma s p:Int)==0)=false:=by simp;omega
    clear c e;generalize Ma s p=A at*;go_enter func118,ntmps118;go_wp2_with(first|(go_at_call 137;refine(g _).mono ?_;rintro a b⟨rfl,rfl⟩)|(go_at_call 139;refine(i _).mono ?_;rintro a b⟨rfl,rfl⟩)|(go_at_call 141;refine(o _).mono ?_;rintro a b⟨rfl,rfl⟩));refine bodyPost_ret (v:=.tuple #[.agg #[Aa 3,.string ((s.extract p s.size).extract 0 A),Aa 0,Aa p],Aa 0]) (by simp[results,results118,go_sem]) rfl ⟨by rw[n.out],?_⟩;exact AP
theorem Tryz.infoTok:(prog.info? 191).map (fun a=>(a.zero,a.size,a.bytes))=some (some (.agg #[Aa 0,.string ByteArray.empty,Aa 0,Aa 0]),4,40):=by kernel_rfl
def J0(t:Az):List Value:=[Aa t.kind.p,.string t.text,Aa t.val,Aa t.pos]
def Ft(O:List Az):List Value:=O.flatMap J0
theorem Z8(O:List Az)(t:Az):Ft (O++[t])=Ft O++J0 t:=by simp[Ft]
theorem Py(w:World)(d e f g:Value)(t:TypeId): ∀b c,[d,e,f,g][b]? =some c->(w.alloc (.cells #[d,e,f,g] t)).cell? (((Ac w.heap.size 0):Addr).add b)=some c:=by
 intro b c a
 match b,a with
 |0,a=>simp at a;subst a;simp[Addr.add]
 |1,a=>simp at a;subst a;simp[Addr.add]
 |2,a=>simp at a;subst a;simp[Addr.add]
 |3,a=>simp at a;subst a;simp[Addr.add]
 |b+4,a=>simp at a
theorem Abt(w:World)(o:Obj)(a b c d:Value)(t:TypeId): ∀e f,[a,b,c,d][e]? =some f->((w.alloc o).alloc (.cells #[a,b,c,d] t)).cell? (((Ac (w.heap.size+1) 0):Addr).add e)=some f:=by have h:=Py (w.alloc o) a b c d t;rw[show(w.alloc o).heap.size=w.heap.size+1 from by simp] at h;exact h
def AaX(s:Af)(w:World)(b:Ending)(d:World):Prop:=
 Ay w d/\
 ((∃a c,DD s.data.toList=.error (a,c)/\b=.returned (.tuple #[Aw,Aa a,Aa c]))\/
  (∃O v,DD s.data.toList=.ok O/\b=.returned (.tuple #[v,Aa 0,Aa 0])/\d.ownsRow w.heap.size 191 4 v O.length (Ft O)))
def Hb(s:Af)(O:List Az)(b:Nat):Except (Nat×Nat) (List Az):=
 match FB s.data.toList b with|.error a=>.error a|.ok c=>.ok (O++c)
theorem Xp(s:Af):Hb s [] (B3 s.data.toList 0)=DD s.data.toList:=by unfold Hb DD;split<;>simp_all
section
variable(s:Af)(O:List Az)
include s O
theorem Xn(a:Nat)(h: ¬a<s.size):Hb s O a=.ok (O++[L0 s.data.toList]):=by unfold Hb;rw[Jd (by exact h)]
theorem Qb(a b:Nat)(h:a<s.size)(c:Cw (s.data.toList.drop a)=.error b):Hb s O a=.error (b,a):=by unfold Hb;rw[MZ (by exact h) c]
theorem Xo(a:Nat)(b:TK×Nat×Nat)(h:a<s.size)(c:Cw (s.data.toList.drop a)=.ok b):
 Hb s (O++[FP s.data.toList a b]) (B3 s.data.toList (a+b.2.1))=Hb s O a:=by
 unfold Hb;rw[Nb (by exact h) c];split<;>simp_all
end
theorem AbA{b:List UInt8}{a:Nat}(h:Cw b=.error a):a=2\/a=3:=by
 unfold Cw at h;split at h
 ·injection h with h;omega
 ·split at h
  ·cases h
  ·split at h
   ·split at h
    ·injection h with h;omega
    ·cases h
   ·split at h
    ·cases h
    ·split at h
     ·cases h
     ·injection h with h;omega
theorem Te{a:List UInt8}{c:TK×Nat×Nat}(h:Cw a=.ok c):c.2.1<=a.length:=by
 unfold Cw at h;split at h
 ·cases h
 ·rename_i e b;split at h
  ·injection h with h;subst h;exact(AaM _).length_le
  ·split at h
   ·split at h
    ·cases h
    ·injection h with h;subst h;exact(AaM _).length_le
   ·split at h
    ·injection h with h;subst h;simp
    ·split at h
     ·rename_i d;injection h with h;subst h;cases b with
      |nil=>simp at d
      |cons f b=>simp
     ·cases h
theorem XS(s:Af)(b:Nat)(a:TK×Nat×Nat)(c:Cw (s.data.toList.drop b)=.ok a):(FP s.data.toList b a).text.size=a.2.1:=by have:=Te c;show((s.data.toList.drop b).take a.2.1).toArray.size=_;rw[UE,It];omega
theorem JR{w f:World}{base:Nat}{c:TypeId}{size:Nat}{v:Value}{e:Nat}{g:List Value}(h:w.ownsRow base c size v e g)(j:Ay w f):f.ownsRow base c size v e g:=by
 have l:=h.lt;obtain⟨i,b⟩:=h;refine⟨i,?_⟩;rcases b with b|⟨a,cap,Ad,d,X,k,m⟩
 ·exact .inl b
 ·exact .inr ⟨a,cap,Ad,d,X,by rw[j.block a (l a (by rw[d];rfl)).2];exact k,m⟩
theorem AiV(s:Af)(w:World)(y:s.size<=600):
 Ah 85 #[.string s] w fun z X=>AaX s w z X:=by
 obtain⟨K,F,H,I,J⟩:=info_parts Tryz.infoTok;have R:B3 s.data.toList 0<=s.size:=Sv (B6 _);go_enter func85,ntmps85;go_wp2_with(go_at_call 117;refine Aq (Zs s 0 _ (B6 _) y) ?_);go_loopw [5,6] (fun v t wr=> ∃(O:List Az)(a:Nat),a<=s.size/\t=Aa a/\wr.ownsRow w.heap.size 191 4 v O.length (Ft O)/\Ay w wr/\Hid (Hb s O a=DD s.data.toList)/\O.length<=a) (fun _ t _=>s.size -(intOf t).toNat)
 case atStart=>exact⟨[],B3 s.data.toList 0,R,rfl,World.ownsRow_nil _ _ _ _,Below.refl _ _,Xp s,by simp⟩
 case round=>
  obtain⟨O,a,ae,rfl,i,x,g,ad⟩:=hrel;have A:=x.size;by_cases p:a<s.size
  ·cases d:Cw (s.data.toList.drop a) with
   |error l=>
    have n:GU s a=.tuple #[.agg #[Aa 0,.string ⟨#[]⟩,Aa 0,Aa 0],Aa l]:=by unfold GU;rw[d];rfl
    have Q:=AbA d;have L:Hid (DD s.data.toList=.error (l,a)):=by show _=_;rw[<-g.out];exact Qb s O a l p d
    have m:=fun w=>YI s a w p y;rw[n] at m;clear n d i g;have Z:((l:Int) !=0)=true:=by simp;omega
    clear Q;go_wp2_with(go_at_call 118;refine(m _).mono ?_;rintro z E⟨rfl,c⟩);go_ret3;have Y:=c.size;exact⟨(x.trans (c.mono A)).alloc (by omega) _,.inl ⟨l,a,L.out,rfl⟩⟩
   |ok b=>
    have n:GU s a=.tuple #[.agg #[Aa (FP s.data.toList a b).kind.p,.string (FP s.data.toList a b).text,Aa (FP s.data.toList a b).val,Aa (FP s.data.toList a b).pos],Aa 0]:=by unfold GU;rw[d];rfl
    have N:Hid (Hb s (O++[FP s.data.toList a b]) (B3 s.data.toList (a+b.2.1))=DD s.data.toList):=by show _=_;rw[<-g.out];exact Xo s O a b p d
    have m:=fun w=>YI s a w p y;have T:=XS s a b d;have G:a+b.2.1<=s.size:=by have:=Te d;rw[Hj,Fo] at this;omega
    have ab:=JN (k:=b.1) (n:=b.2.1) (v:=b.2.2) d;have P:=fun w=>Zs s (a+b.2.1) w G y;have S:B3 s.data.toList (a+b.2.1)<=s.size:=Sv G;have ac:=KV s.data.toList (a+b.2.1);rw[n] at m;clear n d g;generalize B3 s.data.toList (a+b.2.1)=V at*;generalize FP s.data.toList a b=u at*;generalize b.2.1=U at*;have ag:(u.text.size:Int)=U:=by omega
    clear T
    go_wp2_with(first
     |(go_at_call 118;refine(m _).mono ?_;rintro z E⟨rfl,c⟩)
     |(at_builtin;refine wpList_append_own _ rfl _ _ 154 rfl w.heap.size 191 K _ 4 40 underlying154 F H I J rfl (by decide) _ _ _ rfl (((JR i c).alloc _).alloc _) (Ac _ 0) 1 1 (J0 u) rfl rfl (Abt _ _ _ _ _ _ _) ?h1 ?h63 ?hby ?hbase ?hh
       case h1=>intro W r;simp[J0] at r;rcases r with rfl|rfl|rfl|rfl<;>rfl
       case h63=>unfold maxLen;omega
       case hby=>omega
       case hbase=>have:=c.size;simp;omega
       intro D e q f C;have aa:e.cell? (Ac E.heap.size 1)=some (.string u.text):=f.cell (by simp) (fun h=>by have:=((JR i c).lt _ h.symm).2;simp at this);have af:E.heap.size+2<=e.heap.size:=by have:=f.size;simp at this;omega
       have o:Ay w e:=Below.grown (((x.trans (c.mono A)).alloc (by have:=c.size;omega) _).alloc (by have:=c.size;simp;omega) _) f (by have:=c.size;simp;omega) (fun k B=>((JR i c).lt _ B).1);have j:Aside (e.ownsRow w.heap.size 191 4 D (O.length+1) (Ft O++J0 u)/\Ay w e):=⟨q,o⟩
       clear q f C o)
     |(go_at_call 117;refine Aq (P _) ?_))
    go_roundw
    case rel=>exact⟨O++[u],V,S,rfl,by rw[Z8,AG];exact j.out.1,j.out.2,N,by rw[AG];simp;omega⟩
    case measure=>simp[intOf];omega
  ·have M:Hid (DD s.data.toList=.ok (O++[L0 s.data.toList])):=by show _=_;rw[<-g.out];exact Xn s O a p
   clear g
   go_wp2_with(first
    |(at_builtin;refine wpList_append_own _ rfl _ _ 154 rfl w.heap.size 191 K _ 4 40 underlying154 F H I J rfl (by decide) _ _ _ rfl (i.alloc _) (Ac _ 0) 1 1 [Aa 0,.string ⟨#[]⟩,Aa 0,Aa s.size] rfl rfl (Py _ _ _ _ _ _) ?g1 ?g63 ?gby ?gbase ?gh
      case g1=>intro W r;simp at r;rcases r with rfl|rfl|rfl|rfl<;>rfl
      case g63=>unfold maxLen;omega
      case gby=>omega
      case gbase=>simp;omega
      intro D e q f C;have o:Ay w e:=Below.grown (x.alloc A _) f (by simp;omega) (fun k B=>(i.lt _ B).1);have j:Aside (e.ownsRow w.heap.size 191 4 D (O.length+1) (Ft O++[Aa 0,.string ⟨#[]⟩,Aa 0,Aa s.size])/\Ay w e):=⟨q,o⟩
      clear q f C o))
   go_ret3;exact⟨j.out.2,.inr ⟨_,_,M.out,rfl,by rw[Z8,AG];exact j.out.1⟩⟩
structure As(pb:Nat)(w w':World):Prop where
 os:w'.os=w.os
 tape:w'.tape=w.tape
 output:w'.output=w.output
 size:w.heap.size<=w'.heap.size
 block: ∀k,k<w.heap.size->k≠pb->w'.heap[k]? =w.heap[k]?
theorem As.refl(pb:Nat)(w:World):As pb w w:=⟨rfl,rfl,rfl,AA _,fun _ _ _=>rfl⟩
section
variable{pb:Nat}
theorem As.trans{a b c:World}(h:As pb a b)(k:As pb b c):As pb a c:=
 ⟨k.os.trans h.os,k.tape.trans h.tape,k.output.trans h.output,AT h.size k.size,fun f d e=>(k.block f (CF d h.size) e).trans (h.block f d e)⟩
theorem As.of_below{w a:World}(h:Ay w a):As pb w a:=⟨h.os,h.tape,h.output,h.size,fun k b _=>h.block k b⟩
theorem As.drewN{a w:World}(h:As pb a w)(b:Nat):As pb a (w.drewN b):=h.trans ⟨rfl,rfl,rfl,AA _,fun _ _ _=>rfl⟩
theorem As.alloc{a w:World}(h:As pb a w)(o:Obj):As pb a (w.alloc o):=h.trans (As.of_below ((Below.refl _ _).alloc (AA _) o))
theorem As.setCell{a w:World}(h:As pb a w)(o:Nat)(c:Value):As pb a (w.setCell (Ac pb o) c):=
 h.trans ⟨rfl,rfl,rfl,by simp[World.setCell],fun k _ b=>Below.heap_setCell _ _ _ _ b⟩
theorem As.setNew{a w:World}(h:As pb a w){p:Addr}(U:a.heap.size<=p.block)(d:Value):As pb a (w.setCell p d):=
 ⟨h.os,h.tape,h.output,by rw[World.setCell];simp;exact h.size,fun k b c=>by rw[Below.heap_setCell _ _ _ _ (by omega)];exact h.block k b c⟩
theorem As.cell{w a:World}(h:As pb w a){p:Addr}(U:p.block<w.heap.size)(b:p.block≠pb):a.cell? p=w.cell? p:=World.cell?_of_block (w:=w) (h.block p.block U b)
theorem As.frozen{w a:World}(h:As pb w a){p:Addr}(U:p.block<w.heap.size)(b:p.block≠pb):a.frozen? p=w.frozen? p:=World.frozen?_of_block (w:=w) (h.block p.block U b)
end
theorem De{w:World}{a:Addr}{v:Value}(h:w.cell? a=some v):a.block<w.heap.size:=by
 unfold World.cell? at h;split at h
 ·rename_i b;exact(Ju.1 b).1
 ·cases h
structure PW(pb V cap:Nat)(T:List Az)(w:World)(s:PS):Prop where
 code:w.cell? (Ac pb 0)=some (Aa s.code)
 at_:w.cell? (Ac pb 1)=some (Aa s.at_)
 toks:w.cell? (Ac pb 2)=some (Ar V T.length cap)
 next:w.cell? (Ac pb 3)=some (Aa s.next)
 frz: ∀o,w.frozen? (Ac pb o)=false
 tok: ∀j u,(Ft T)[j]? =some u->w.cell? (Ac V j)=some u
 ne:V≠pb
 tlt:V<w.heap.size
 size:T.length<=601
theorem PW.lt{pb V cap:Nat}{T:List Az}{w:World}{s:PS}(h:PW pb V cap T w s):pb<w.heap.size:=De h.code
theorem PW.below{pb V cap:Nat}{T:List Az}{w c:World}{s:PS}(h:PW pb V cap T w s)(b:Ay w c):PW pb V cap T c s:=by
 have d:=h.lt;have a: ∀o,c.cell? (Ac pb o)=w.cell? (Ac pb o):=fun o=>b.cell (p:=Ac pb o) d
 exact⟨by rw[a];exact h.code,by rw[a];exact h.at_,by rw[a];exact h.toks,by rw[a];exact h.next,
  fun o=>by rw[b.frozen (p:=Ac pb o) d];exact h.frz o,
  fun e g f=>by rw[b.cell (p:=Ac V e) h.tlt];exact h.tok e g f,h.ne,CF h.tlt b.size,h.size⟩
theorem Z7: ∀(T:List Az)(c:Nat)(t:Az),T[c]? =some t-> ∀b,b<4->(Ft T)[c*4+b]? =(J0 t)[b]?
 |[],c,t,h,_,_=>by simp at h
 |a::T,0,t,h,b,f=>by simp at h;subst h;have d:Ft (a::T)=J0 a++Ft T:=rfl;have e:(J0 a).length=4:=rfl;rw[d,CR (by omega)];simp
 |a::T,c+1,t,h,b,f=>by have d:Ft (a::T)=J0 a++Ft T:=rfl;have e:(J0 a).length=4:=rfl;rw[d,CS (by omega),e];have:=Z7 T c t (by simpa using h) b f;rw[<-this];congr 1;omega
theorem PW.curCells{pb V cap:Nat}{T:List Az}{w:World}{s:PS}(h:PW pb V cap T w s)(X:An T s):
 w.cell? (Ac V (s.next*4))=some (Aa (Ad T s).kind.p)/\w.cell? (Ac V (s.next*4+1))=some (.string (Ad T s).text)/\
 w.cell? (Ac V (s.next*4+2))=some (Aa (Ad T s).val)/\w.cell? (Ac V (s.next*4+3))=some (Aa (Ad T s).pos):=by
 have b:T[s.next]? =some (Ad T s):=by unfold Ad;rw[Dg,Bb X];rfl
 have a:=Z7 T s.next (Ad T s) b;exact⟨h.tok _ _ ((a 0 (by omega)).trans rfl),h.tok _ _ ((a 1 (by omega)).trans rfl),h.tok _ _ ((a 2 (by omega)).trans rfl),h.tok _ _ ((a 3 (by omega)).trans rfl)⟩
theorem Tryz.cellsTok:prog.cellsOf 191=4:=by kernel_rfl
section
variable{pb V cap:Nat}{T:List Az}{w:World}{s:PS}(h:PW pb V cap T w s)
include h
theorem Hz(X:An T s):
 Ah 145 #[Al pb] w fun a f=>a=.returned (.agg #[Aa (Ad T s).kind.p,.string (Ad T s).text,Aa (Ad T s).val,Aa (Ad T s).pos])/\Ay w f:=by
 obtain⟨g,i,j,k⟩:=h.curCells X;have p:=h.toks;have n:=h.next;have o:=h.size;have l:(s.next:Int)<T.length:=by unfold An at X;omega
 have m:=h.lt;have q:=h.tlt;clear h X;generalize(Ad T s).kind.p=b at*;generalize(Ad T s).text=d at*;generalize(Ad T s).val=e at*;generalize(Ad T s).pos=c at*;go_enter func145,ntmps145;go_wp2;go_region;go_wp2;refine bodyPost_ret (v:=.agg #[Aa b,.string d,Aa e,Aa c]) (by simp[results,results145,go_sem]) rfl ⟨rfl,?_⟩;exact AP.drew
theorem PW.setNext(b:Nat):PW pb V cap T (w.setCell (Ac pb 3) (Aa b)) {s with next:=b}:=by
 have a:=h.ne;refine⟨?_,?_,?_,?_,?_,?_,a,by simp[World.setCell];exact h.tlt,h.size⟩
 ·rw[Bh _ _ _ _ (by simp)];exact h.code
 ·rw[Bh _ _ _ _ (by simp)];exact h.at_
 ·rw[Bh _ _ _ _ (by simp)];exact h.toks
 ·exact DW _ _ _ h.next
 ·intro o;rw[Cu];exact h.frz o
 ·intro e f d;rw[Bh _ _ _ _ (by intro c;cases c;exact a rfl)];exact h.tok e f d
theorem PW.setTell(c p:Nat):PW pb V cap T ((w.setCell (Ac pb 0) (Aa c)).setCell (Ac pb 1) (Aa p)) {s with code:=c,at_:=p}:=by
 have b:=h.ne;refine⟨?_,?_,?_,?_,?_,?_,b,by simp[World.setCell];exact h.tlt,h.size⟩
 ·rw[Bh _ _ _ _ (by simp)];exact DW _ _ _ h.code
 ·exact DW _ _ _ (by rw[Bh _ _ _ _ (by simp)];exact h.at_)
 ·rw[Bh _ _ _ _ (by simp),Bh _ _ _ _ (by simp)];exact h.toks
 ·rw[Bh _ _ _ _ (by simp),Bh _ _ _ _ (by simp)];exact h.next
 ·intro o;rw[Cu,Cu];exact h.frz o
 ·intro e f d;rw[Bh _ _ _ _ (by intro a;cases a;exact b rfl),Bh _ _ _ _ (by intro a;cases a;exact b rfl)];exact h.tok e f d
end
section
variable(k v p:Int)(t:Af)(w:World)
include k v p t w
theorem Ud:(Instr.field 191 (.agg #[Aa k,.string t,Aa v,Aa p]) 1).run prog w=.ok (.string t) w:=by kernel_rfl
theorem AiQ:(Instr.field 191 (.agg #[Aa k,.string t,Aa v,Aa p]) 3).run prog w=.ok (Aa p) w:=by kernel_rfl
theorem Nx:(Instr.field 191 (.agg #[Aa k,.string t,Aa v,Aa p]) 0).run prog w=.ok (Aa k) w:=by kernel_rfl
theorem AiP:(Instr.field 191 (.agg #[Aa k,.string t,Aa v,Aa p]) 2).run prog w=.ok (Aa v) w:=by kernel_rfl
end
section
variable{pb V cap:Nat}{T:List Az}{w:World}{s:PS}
section
variable(h:PW pb V cap T w s)(X:An T s)(f:Af)
include h X f
theorem Ns:
 Ah 187 #[Al pb,.string f] w fun a c=>a=.returned (.bool (Aj T f s))/\Ay w c:=by
 have hF:=Ud;go_enter func187,ntmps187;go_wp2_with(go_at_call 145;refine(Hz h X).mono ?_;rintro a d⟨rfl,b⟩);go_ret;exact⟨rfl,b⟩
theorem EM(g:Aj T f s=true):
 Ah 165 #[Al pb,.string f] w fun b e=>b=.returned (.bool true)/\PW pb V cap T e (Ab s)/\As pb w e:=by
 have c:=Ns h X f;rw[g] at c;have l:=h.size;have j:s.next<T.length:=X;go_enter func165,ntmps165;go_wp2_with(go_at_call 187;refine c.mono ?_;rintro b m⟨rfl,d⟩;have a:=h.below d;have k:=a.next;have i:=a.frz 3);go_ret;exact⟨rfl,a.setNext (s.next+1),(As.of_below d).setCell _ _⟩
theorem D2(e:Aj T f s=false):
 Ah 165 #[Al pb,.string f] w fun a d=>a=.returned (.bool false)/\PW pb V cap T d s/\As pb w d:=by
 have b:=Ns h X f;rw[e] at b;go_enter func165,ntmps165;go_wp2_with(go_at_call 187;refine b.mono ?_;rintro a g⟨rfl,c⟩);go_ret;exact⟨rfl,h.below c,As.of_below c⟩
end
def O4(a p:Nat)(s:PS):PS:={s with code:=if s.code=0 then a else s.code,at_:=if s.code=0 then p else s.at_}
abbrev A6:Value:=.tuple #[]
theorem AiH(h:PW pb V cap T w s)(b p:Nat):
 Ah 148 #[Al pb,Aa b,Aa p] w fun a d=>a=.returned A6/\PW pb V cap T d (O4 b p s)/\As pb w d:=by
 have e:=h.code;have i:=h.at_;have f:=h.frz 0;have g:=h.frz 1;by_cases c:s.code=0
 ·have a:O4 b p s={s with code:=b,at_:=p}:=by simp[O4,c]
  rw[a];rw[c] at e;clear a;go_enter func148,ntmps148;go_wp2;go_end0;exact⟨rfl,h.setTell b p,((As.refl _ _).setCell _ _).setCell _ _⟩
 ·have a:O4 b p s=s:=by simp[O4,c]
  rw[a];have j:((s.code:Int)==0)=false:=by simp;omega
  clear a c;go_enter func148,ntmps148;go_wp2;go_end0;exact⟨rfl,h,As.refl _ _⟩
end
