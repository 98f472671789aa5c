/- A region: one operation is taken. The reference's tokens: by -/
import Derived.OrdersHeld
import Derived.Test.YtklobognaldjpaaGreatCPure3
set_option maxHeartbeats 1000000
namespace Go.Proofs.YtklobognaldjpaaGreat
open Go.Proofs.Tryz
open Go.RowKit
def WA(_:Nat)(p:Prop):Prop:=p
theorem NE{j:Program}{h:Region.Mode}{a:Array Oper}{d:Exit->Act->World->Prop}{e:World->Prop}{c:Nat}{i:Oper}{v:Value}{l:Nat}{g:Array Bool}{b:Act}{w:World}(p:a[c]? =some i)(f:(Region.noSelect a&&(Region.free h a g c&&(Region.ready h a g).contains c))=true)(n: ∀k b w,d (.panic k) (b.put i.dst v) w->d (.panic k) b w)(q:YieldsIf j a e i v b)(o:e w)(m:WA (c+1) (wpAnyH j h a d e l (g.setIfInBounds c true) (b.put i.dst v) w)):WA c (wpAnyH j h a d e (l+1) g b w):=by simp only[NG] at f;exact wpAnyH_take p f.1 f.2.1 f.2.2 n q o m
theorem QB(b:Int)(w:World):
 Ah 89 #[.int .u8 b] w fun e f=>e=.returned (.bool (Dv b))/\f=w:=by
 by_cases c:97<=b
 ·by_cases d:b<=122
  ·have a:Dv b=true:=by simp[Dv,c,d]
   rw[a];clear a;go_enter func89,ntmps89;go_wp2;go_ret;exact⟨rfl,rfl⟩
  ·have a:Dv b=false:=by simp[Dv,d]
   rw[a];clear a;go_enter func89,ntmps89;go_wp2;go_ret;exact⟨rfl,rfl⟩
 ·have a:Dv b=false:=by simp[Dv,c]
  rw[a];clear a;go_enter func89,ntmps89;go_wp2;go_ret;exact⟨rfl,rfl⟩
theorem TN(b:Int)(w:World):
 Ah 90 #[.int .u8 b] w fun e f=>e=.returned (.bool (CI b))/\f=w:=by
 by_cases c:48<=b
 ·by_cases d:b<=57
  ·have a:CI b=true:=by simp[CI,c,d]
   rw[a];clear a;go_enter func90,ntmps90;go_wp2;go_ret;exact⟨rfl,rfl⟩
  ·have a:CI b=false:=by simp[CI,d]
   rw[a];clear a;go_enter func90,ntmps90;go_wp2;go_ret;exact⟨rfl,rfl⟩
 ·have a:CI b=false:=by simp[CI,c]
  rw[a];clear a;go_enter func90,ntmps90;go_wp2;go_ret;exact⟨rfl,rfl⟩
def Ho(c:Af)(b:List Af):Bool:=b.any fun a=>a.toList==c.toList
theorem UU(g r:Nat)(a:List Af)(e:Af)(w:World)(u:a.length<=600)(l:FU w g a):
 Ah 91 #[.string e,Ar g a.length r] w fun s t=>s=.returned (.bool (Ho e a))/\t=w:=by
 go_enter func91,ntmps91;go_wp2;go_loop [5] (fun j=> ∃b:Nat,b<=a.length/\j=Aa b/\ ∀d∈a.take b,(d.toList==e.toList)=false) (fun j=>a.length -(intOf j).toNat)
 case atStart=>exact⟨0,B6 _,rfl,fun d c=>by simp at c⟩
 case round=>
  obtain⟨b,x,rfl,n⟩:=hrel;have k:Hid (∀d∈a.take b,(d.toList==e.toList)=false):=n;clear n;by_cases i:b<a.length
  ·have v:w.cell? (Ac g b)=some (.string a[b]):=l b a[b] (Bb i);have q:Hid (a.take (b+1)=a.take b++[a[b]]):=NS i;have p:Hid (a[b]∈a):=D4 i;clear l;generalize a[b]=h at*;cases m:(h.toList==e.toList) with
   |true=>
    have f:Hid (Ho e a=true):=by show _=_;unfold Ho;rw[IX];exact⟨h,p.out,m⟩
    go_wp2;go_ret;exact⟨by rw[f.out];rfl,rfl⟩
   |false=>
    have o:Hid ((h.toList==e.toList)=false):=m;go_wp2
    go_round
    case rel=>exact⟨b+1,by omega,by go_num,fun d c=>by
     rw[q.out,BD] at c;rcases c with c|c
     ·exact k.out d c
     ·simp at c;subst c;exact o.out⟩
    case measure=>simp[intOf];omega
  ·have f:Hid (Ho e a=false):=by show _=_;unfold Ho;rw[Ri];intro d c;have:=k.out d (by rw[I1 (by omega)];exact c);simp[this]
   go_wp2;go_ret;exact⟨by rw[f.out];rfl,rfl⟩
def KF(a:List UInt8):Nat:=min (Em a) 2147483648
theorem Ai7(b:List UInt8)(a:UInt8):KF (b++[a])=min (10*KF b+(a.toNat -48)) 2147483648:=by unfold KF;rw[Aag];omega
theorem Agz(s:Af)(w:World)(r:s.size<=600)(e: ∀h(n:h<s.size),CI s[h].toNat=true):
 Ah 93 #[.string s] w fun j m=>j=.returned (Aa (KF s.data.toList))/\m=w:=by
 go_enter func93,ntmps93;go_wp2;go_loop [3,4] (fun l c=> ∃a b:Nat,a<=s.size/\b<=2147483648/\c=Aa a/\l=Aa b/\b=KF (s.data.toList.take a)) (fun _ c=>s.size -(intOf c).toNat)
 case atStart=>exact⟨0,0,B6 _,by omega,rfl,rfl,rfl⟩
 case round=>
  obtain⟨a,b,q,t,rfl,rfl,g⟩:=hrel;have d:Hid (b=KF (s.data.toList.take a)):=g;clear g;by_cases f:a<s.size
  ·have k:=(SJ _).1 (e a f);obtain⟨o,p⟩:=k;have i:Hid (KF (s.data.toList.take (a+1))=min (10*b+(s[a].toNat -48)) 2147483648):=by show _=_;rw[Z5 s a f,Ai7,d.out]
   clear e;go_wp2;all_goals go_round
   case rel=>exact⟨a+1,min (10*b+(s[a].toNat -48)) 2147483648,by omega,by omega,by go_num,by congr 1;omega,i.out.symm⟩
   case measure=>simp[intOf];omega
  ·go_wp2;go_ret;refine⟨L7 ?_,rfl⟩;rw[d.out,I1 (by rw[Fo];omega)]
theorem WH: ∀(c:List UInt8)(a:UInt8)(d:Nat),c[d]? =some a->(∀e,e<d->c[e]? ≠some a)->Lib.indexByte c a=d
 |[],a,d,b,_=>by simp at b
 |f::c,a,0,b,_=>by simp at b;subst b;simp[Lib.indexByte]
 |f::c,a,d+1,b,g=>by have i:f≠a:=fun h=>g 0 (by omega) (by simp[h]);have j:=WH c a d (by simpa using b) (fun e k=>by have:=g (e+1) (by omega);simpa using this);simp only[Lib.indexByte];rw[Ae (by simpa using i),j,Ae (by simp)];omega
theorem WI: ∀(b:List UInt8)(a:UInt8),(∀c:Nat,b[c]? ≠some a)->Lib.indexByte b a= -1
 |[],a,_=>rfl
 |e::b,a,d=>by have g:e≠a:=fun f=>d 0 (by simp[f]);have h:=WI b a (fun c=>by have:=d (c+1);simpa using this);simp only[Lib.indexByte];rw[Ae (by simpa using g),h];rfl
theorem R9(s:Af)(p a:Nat):(s.data.toList.drop p)[a]? =s.data.toList[p+a]? :=Uz
theorem Sz(s:Af)(a:Nat)(b:a<s.size):s.data.toList[a]? =some s[a]:=Bb (by exact b)
theorem Su(s:Af)(a:Nat)(b:a<s.size):Fm (s.data.toList.drop a)=if s[a].toNat=32\/s[a].toNat=10 then 1 else if s[a].toNat=123 then(Lib.indexByte (s.data.toList.drop a) 125+1).toNat else 0:=by obtain⟨d,c⟩:=G6 s a b;rw[c];simp only[Fm,N7];rfl
theorem AcM(s:Af)(a b:Nat)(e:a<s.size)(f:s[a].toNat=123)(i:b<s.size)(k:a<=b)(g:s[b].toNat=125)(j: ∀c(h:c<s.size),a<=c->c<b->s[c].toNat≠125):Fm (s.data.toList.drop a)=b -a+1:=by
 have:=WH (s.data.toList.drop a) 125 (b -a) (by
  rw[R9,show a+(b -a)=b by omega,Sz s b i]
  congr 1;exact(N7 _ _).2 g) (fun c h=>by
  rw[R9,Sz s (a+c) (by omega)];intro d;injection d with d
  exact j (a+c) (by omega) (by omega) (by omega) (by rw[d];rfl))
 rw[Su s a e,this,Ae (by omega),Ag f];omega
theorem AcO(s:Af)(a:Nat)(e:a<s.size)(f:s[a].toNat=123)(g: ∀b(d:b<s.size),a<=b->s[b].toNat≠125):Fm (s.data.toList.drop a)=0:=by
 have:=WI (s.data.toList.drop a) 125 (fun b=>by
  rw[R9];by_cases d:a+b<s.size
  ·rw[Sz s (a+b) d];intro c;injection c with c;exact g (a+b) d (by omega) (by rw[c];rfl)
  ·rw[NQ (by rw[Fo];omega)];simp)
 rw[Su s a e,this,Ae (by omega),Ag f];rfl
def Lh(s:Af)(p:Nat):Value:=
 if a:B3 s.data.toList p<s.size then(if(s[B3 s.data.toList p]'a).toNat=123 then .tuple #[Aa (-1),Aa (B3 s.data.toList p)] else .tuple #[Aa (B3 s.data.toList p),Aa 0])
 else .tuple #[Aa (B3 s.data.toList p),Aa 0]
theorem TW(s:Af)(p a:Nat)(c:B3 s.data.toList a=B3 s.data.toList p)(d:a<s.size->Fm (s.data.toList.drop a)=0):B3 s.data.toList p=a:=by
 rw[<-c];by_cases b:a<s.size
 ·exact Wd (d b)
 ·exact Wc (by rw[Fo];exact b)
theorem Ahz(s:Af)(p:Nat)(w:World)(H:p<=s.size)(L:s.size<=600):
 Ah 88 #[.string s,Aa p] w fun r I=>r=.returned (Lh s p)/\I=w:=by
 go_enter func88,ntmps88;go_wp2;go_loop [1,4,5,6] (fun g _ _ _=> ∃a:Nat,a<=s.size/\g=Aa a/\B3 s.data.toList a=B3 s.data.toList p) (fun g _ _ _=>s.size -(intOf g).toNat)
 case atStart=>exact⟨p,H,rfl,rfl⟩
 case round=>
  obtain⟨a,F,rfl,t⟩:=hrel;have h:Hid (B3 s.data.toList a=B3 s.data.toList p):=t;clear t;by_cases e:a<s.size
  ·have l:Hid (Fm (s.data.toList.drop a)=if s[a].toNat=32\/s[a].toNat=10 then 1 else if s[a].toNat=123 then(Lib.indexByte (s.data.toList.drop a) 125+1).toNat else 0):=Su s a e;by_cases d:s[a].toNat=32\/s[a].toNat=10
   ·have HS:Hid (B3 s.data.toList (a+1)=B3 s.data.toList p):=by
     show _=_;have f:Fm (s.data.toList.drop a)=1:=by rw[l.out,Ag d]
     rw[<-h.out,Sw e (by omega),f]
    have z:((s[a].toNat:Int)==32)=true\/((s[a].toNat:Int)==32)=false/\((s[a].toNat:Int)==10)=true:=by
     rcases d with d|d
     ·exact .inl (by simp;omega)
     ·exact .inr ⟨by simp;omega,by simp;omega⟩
    clear d l h;rcases z with d|⟨d,A⟩
    ·go_wp2
     go_round
     case rel=>exact⟨a+1,by omega,by go_num,HS.out⟩
     case measure=>simp[intOf];omega
    ·go_wp2
     go_round
     case rel=>exact⟨a+1,by omega,by go_num,HS.out⟩
     case measure=>simp[intOf];omega
   ·have J:((s[a].toNat:Int)==32)=false:=by simp;omega
    have A:((s[a].toNat:Int)==10)=false:=by simp;omega
    by_cases j:s[a].toNat=123
    ·have B:((s[a].toNat:Int)==123)=true:=by simp;omega
     have o:Hid (s[a].toNat=123):=j;clear d j l;go_wp2;go_loop [1] (fun g=> ∃b:Nat,a<=b/\b<=s.size/\g=Aa b/\ ∀c(i:c<s.size),a<=c->c<b->s[c].toNat≠125) (fun g=>s.size -(intOf g).toNat)
     case atStart=>exact⟨a,AA _,F,rfl,fun c i m y=>by omega⟩
     case round=>
      obtain⟨b,G,K,rfl,u⟩:=hrel;have q:Hid (∀c(i:c<s.size),a<=c->c<b->s[c].toNat≠125):=u;clear u;by_cases E:b<s.size
      ·by_cases n:s[b].toNat=125
       ·have C:((s[b].toNat:Int) !=125)=false:=by simp;omega
        have HS:Hid (B3 s.data.toList (b+1)=B3 s.data.toList p):=by show _=_;have f:=AcM s a b e o.out E G n q.out;rw[<-h.out,Sw e (by omega),f];congr 1;omega
        have D:((b:Int)==s.size)=false:=by simp;omega
        clear n;go_wp2
        go_round
        case rel=>exact⟨b+1,by omega,by go_num,HS.out⟩
        case measure=>simp[intOf];omega
       ·have C:((s[b].toNat:Int) !=125)=true:=by simp;omega
        have v:Hid (s[b].toNat≠125):=n;clear n;go_wp2
        go_round
        case rel=>exact⟨b+1,by omega,by omega,by go_num,fun c i m y=>by
         by_cases r:c=b
         ·subst r;exact v.out
         ·exact q.out c i m (by omega)⟩
        case measure=>simp[intOf];omega
      ·have D:((b:Int)==s.size)=true:=by simp;omega
       have HQ:Hid (Lh s p=.tuple #[Aa (-1),Aa a]):=by show _=_;have f:=AcO s a e o.out (fun c i m=>q.out c i m (by omega));have k:=TW s p a h.out (fun _=>f);unfold Lh;simp only[k,dif_pos e,o.out,Hr]
       go_wp2;go_ret2;exact⟨by rw[HQ.out];rfl,rfl⟩
    ·have B:((s[a].toNat:Int)==123)=false:=by simp;omega
     have HQ:Hid (Lh s p=.tuple #[Aa a,Aa 0]):=by
      show _=_;have f:Fm (s.data.toList.drop a)=0:=by rw[l.out,Ae d,Ae j]
      have k:=TW s p a h.out (fun _=>f);unfold Lh;simp only[k,dif_pos e,Ae j]
     clear d j;go_wp2;go_ret2;exact⟨by rw[HQ.out];rfl,rfl⟩
  ·have HQ:Hid (Lh s p=.tuple #[Aa a,Aa 0]):=by show _=_;have k:=TW s p a h.out (fun x=>absurd x e);unfold Lh;simp only[k,dif_neg e]
   go_wp2;go_ret2;exact⟨by rw[HQ.out];rfl,rfl⟩
