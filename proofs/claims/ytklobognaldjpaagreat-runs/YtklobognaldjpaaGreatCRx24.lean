/- The reference's walk as it runs: the body of a proc or func. -/
import Derived.Test.YtklobognaldjpaaGreatCRx37
set_option maxRecDepth 1000000
set_option maxHeartbeats 8000000
namespace Go.Proofs.YtklobognaldjpaaGreat
open Go.Proofs.Tryz
open Go.RowKit
def IA(b:List Af)(c:List Int):List (Af×Int):=b.zipIdx.map fun a=>(a.1,c.getD a.2 0)
theorem Ab1{b:List Af}{c:List Int}{a:Nat}(h:a<b.length):(IA b c).take (a+1)=(IA b c).take a++[(b[a],c.getD a 0)]:=by
 have d:(IA b c)[a]? =some (b[a],c.getD a 0):=by unfold IA;rw[CC,List.getElem?_zipIdx,Bb h];simp
 rw[Mp,d];rfl
def Pk(b:List Af):Prop:=(∀(d e:Nat)(a c:Af),b[d]? =some a->b[e]? =some c->a.toList=c.toList->d=e)/\b.length<=600
theorem Yd{e:List Af}(h:Pk e){L:List GC}{n:Nat}(i:L.map GC.sy=(e.take n).map fun a=>⟨a,0,0⟩):G1 L:=by
 have j: ∀(b:Nat)(a:GC),L[b]? =some a->e[b]? =some a.name:=fun b a g=>by
  have c:(L.map GC.sy)[b]? =some a.sy:=by rw[CC,g];rfl
  rw[i,CC] at c;cases d:(e.take n)[b]? with
  |none=>rw[d] at c;cases c
  |some f=>
   rw[d] at c;have l:f=a.name:=by injection c with c;exact C4 Sy.name c
   rw[List.getElem?_take] at d;split at d
   ·rw[d,l]
   ·cases d
 refine⟨fun b k a f g m o=>h.1 b k _ _ (j b a g) (j k f m) o,?_⟩;have:=C4 List.length i;simp at this;have:=h.2;omega
def GC.own(a:GC):Bool:=decide (a.kind=3)&& !(a.cs.any fun b=>AS b a.name)
theorem V0(b:List Af)(d:Af):(A9 (b.map fun a=>(⟨a,0,0⟩:Sy)) d).isNone= !(b.any fun a=>AS a d):=by
 cases h:A9 (b.map fun a=>(⟨a,0,0⟩:Sy)) d with
 |none=>
  have e:=MJ h;have:(b.any fun a=>AS a d)=false:=by rw[Ri];intro a j;have:=e ⟨a,0,0⟩ (CD.2 ⟨a,j,rfl⟩);unfold AS;simpa using this
  rw[this];rfl
 |some k=>
  obtain⟨e,g⟩:=Og _ h;have c:=OZ e;rw[CC] at c;cases f:b[k]? with
  |none=>rw[f] at c;cases c
  |some a=>
   rw[f] at c;have i:(⟨a,0,0⟩:Sy)=_:=FH c;rw[<-i] at g;have:(b.any fun a=>AS a d)=true:=IX.2 ⟨a,Ct f,by unfold AS;simpa using g⟩;rw[this];rfl
def GC.ent(a:GC)(b:List Int):List (Af×Int):=Go.Proofs.YtklobognaldjpaaGreat.IA a.cs b++if a.own then[(a.name,0)] else[]
def GC.sys(b:GC):List Sy:=(b.cs.map fun a=>⟨a,0,0⟩)++if b.own then[⟨b.name,3,0⟩] else[]
def Jz(wr:World)(a:Af)(Z:Nat)(b:Int)(Y U:Nat)(w:World):Prop:=
 wr.heap.size<=Y/\Y<w.heap.size/\Y≠U/\Ay wr w/\GX Y w [.string a,Aa (Z:Nat),Ar U 1 1,Aa 0,Aw,Aa 0]/\w.ownsRow wr.heap.size 3 1 (Ar U 1 1) 1 [Aa b]
theorem OJ{w:World}{base U:Nat}{a:Int}(b:base<=U)(h:w.heap[U]? =some (.cells #[Aa a] 3)):w.ownsRow base 3 1 (Ar U 1 1) 1 [Aa a]:=⟨rfl,.inr ⟨U,1,_,rfl,b,h,by omega,by decide,rfl,rfl⟩⟩
theorem Afk(wr:World)(a:Af)(Z:Nat):Jz wr a Z 0 (wr.heap.size+1) wr.heap.size ((wr.alloc (.cells #[Aa 0] 3)).alloc (.cells #[.string a,Aa (Z:Nat),Ar wr.heap.size 1 1,Aa 0,Aw,Aa 0] 207)).drew:=by
 have b:(wr.alloc (.cells #[Aa 0] 3)).heap.size=wr.heap.size+1:=by simp
 refine⟨by omega,?_,by omega,(AP.alloc (by simp) _).drew,fun o d c=> ?_,OJ (AA _) ?_⟩
 ·show _<(World.alloc _ _).heap.size;simp
 ·show(World.alloc _ _).cell? _=_;rw[<-b,Cl];simpa using c
 ·show(World.alloc _ _).heap[_]? =_;rw[(AP:Below (wr.alloc (.cells #[Aa 0] 3)).heap.size _ _).block wr.heap.size (by omega)];exact heap_alloc_new _ _
theorem Afl(wr:World)(a:Af)(Z:Nat):Jz wr a Z 0 wr.heap.size (wr.heap.size+1) ((wr.alloc (.cells #[.string a,Aa (Z:Nat),Ar (wr.heap.size+1) 1 1,Aa 0,Aw,Aa 0] 207)).alloc (.cells #[Aa 0] 3)).drew:=by
 obtain⟨J,b⟩: ∃J,J=wr.alloc (.cells #[.string a,Aa (Z:Nat),Ar (wr.heap.size+1) 1 1,Aa 0,Aw,Aa 0] 207):=⟨_,rfl⟩;have d:J.heap.size=wr.heap.size+1:=by rw[b];simp
 have c:Ay J (J.alloc (.cells #[Aa 0] 3)):=AP;refine⟨by omega,?_,by omega,(AP.alloc (by simp) _).drew,fun o f e=> ?_,OJ (by omega) ?_⟩
 ·show _<(World.alloc _ _).heap.size;simp;omega
 ·rw[<-b];show(World.alloc _ _).cell? _=_;rw[c.cell (p:=Ac wr.heap.size o) (by show wr.heap.size<_;omega),b,Cl];simpa using e
 ·rw[<-b];show(World.alloc _ _).heap[_]? =_;rw[<-d];exact heap_alloc_new _ _
section
variable{wr:World}{a:Af}{Z:Nat}{y:Int}{Y U:Nat}{w:World}(h:Jz wr a Z y Y U w)
include h
theorem Jz.set(c:Int):Jz wr a Z c Y U (w.setCell ⟨U,0,none⟩ (Aa c)):=by
 obtain⟨j,k,d,b,l,e⟩:=h;have f:=(e.lt U rfl).1;refine⟨j,by simp[World.setCell];exact k,d,⟨b.os,b.tape,b.output,by simp[World.setCell];exact b.size,fun g m=> ?_⟩,fun o n f=> ?_,(e.stored 0 (Aa c)).1⟩
 ·rw[Below.heap_setCell _ _ _ _ (by show g≠U;omega)];exact b.block g m
 ·rw[Bh _ _ _ _ (by intro i;cases i;exact d rfl)];exact l o n f
theorem Jz.drew:Jz wr a Z y Y U w.drew:=⟨h.1,h.2.1,h.2.2.1,h.2.2.2.1.drew,h.2.2.2.2⟩
end
section
variable{O X cap B:Nat}{T:List Az}{c:Nat}{V:Int}{N:Value}{G:List GC}{D:Value}{H:List GC}{w J:World}{K I:Value}{S:RS}
theorem Abs(h:RA O X cap B T c V N G D H w K I S){q:Nat}{b:GC}(az:G[q]? =some b){cq:Value}{j:List Int}(hcn:Pk b.cs)(eu: ∀au∈j,VB au)(fl:c<=30){nx:Nat}{rn:RS->RS}(c7: ∀(bv:World)(cr a8 af:Value)(c1:RS)(d:List GC),RA O X cap B T (c+1) V N G af d bv cr a8 c1->d.map GC.sy=b.sys->Ah 122 #[Al O,Aa (b.body:Nat),Aa 1,.bool true] bv (SP O X cap B T (c+1) V N G af d nx (rn c1) bv a8))(er: ∃base,w.ownsRow base 3 1 cq j.length (j.map (.int .i64))/\cq.ownBlock≠some O):
 Ah 210 #[Al O,Aa (q:Nat),cq] w fun e dt=> ∃au:Int,e=.returned (Aa au)/\VB au/\au=(if b.own then((rn {S with here:=b.ent j}).here.getD b.cs.length default).2 else 0)/\Hid (∃cr a8,RA O X cap B T c V N G D H dt cr a8 {rn {S with here:=b.ent j} with here:=S.here}/\Kf O G H I a8 w dt):=by
 obtain⟨bp,ce⟩: ∃bp:Int,bp=(if b.own then((rn {S with here:=b.ent j}).here.getD b.cs.length default).2 else 0):=⟨_,rfl⟩;have cz:Hid (bp=(if b.own then((rn {S with here:=b.ent j}).here.getD b.cs.length default).2 else 0)):=ce;rw[<-ce];clear ce;have dd:=h.lt;have f4:w.cell? (Ac O 4)=some N:=h.cel 4 _ rfl;have f5:w.cell? (Ac O 5)=some D:=h.cel 5 _ rfl;have d4:=h.frz 5;have fs:=(BH.1 az).1;have fr:(q:Int)<(G.length:Int):=by omega
 obtain⟨aa,ab,rfl,_,ap⟩:=Gt h.gro az;have d6:=ap 0 (by omega);have d7:=ap 1 (by omega);have c2:=ap 2 (by omega);have d8:=ap 3 (by omega);have c3:=ap 4 (by omega);have d9:=ap 5 (by omega);simp only[GC.row,Rp,J4,Mq] at d6 d7 c2 d8 c3 d9;clear ap;obtain⟨fb,_,_,fc⟩:=h.gv.2 q b az;obtain⟨ea,eb,ei,_⟩:=D9 fc;have c8:=h.cvr b (Ct az);obtain⟨bx,bz,bh,fp⟩:=D9 c8;rw[ei] at c2;rw[bh] at c3;obtain⟨t,b3,rfl,_⟩: ∃t al,D=.slice t H.length al/\H.length<=al:=D9 h.hro;obtain⟨base,bl,es⟩:=er;obtain⟨f7,f8,rfl,_⟩:=D9 bl;obtain⟨A,ae⟩: ∃A,A=(w.setCell ⟨O,5,none⟩ Aw).alloc (.cells #[.string b.name,Aa (b.kind:Nat),.slice ea fb.2.length eb,Aa (b.args:Nat),.slice bx b.cs.length bz,Aa (b.body:Nat)] 207):=⟨_,rfl⟩;have a7:(w.setCell ⟨O,5,none⟩ Aw).heap.size=w.heap.size:=by simp[World.setCell]
 have fx:A.heap.size=w.heap.size+1:=by rw[ae];simp[a7]
 have e0:A.cell? (Ac w.heap.size 0)=some (.string b.name):=by rw[ae,<-a7,Cl];rfl
 have dk:A.cell? (Ac w.heap.size 1)=some (Aa (b.kind:Nat)):=by rw[ae,<-a7,Cl];rfl
 have e1:A.cell? (Ac w.heap.size 4)=some (.slice bx b.cs.length bz):=by rw[ae,<-a7,Cl];rfl
 have dl:A.cell? (Ac w.heap.size 5)=some (Aa (b.body:Nat)):=by rw[ae,<-a7,Cl];rfl
 have dy:Hid (RA O X cap B T c V (Ar aa G.length ab) G Aw [] A K I {S with here:=[]}):=by have p:=h.noH (As.refl O w) rfl;rw[ae];exact p.below AP
 have dg:As O w A:=by rw[ae];exact((As.refl O w).setCell _ _).alloc _
 have fv: ∀w,(Instr.makeSlice 23 (Aa 1) (Aa 1)).run prog w=.ok (Ar w.heap.size 1 1) (w.alloc (.cells #[Aa 0] 3)):=fun _=>by kernel_rfl
 have bc:Hid (RA O X cap B T c V (Ar aa G.length ab) G (.slice t H.length b3) H w K I S):=h;clear h;go_enter func210,ntmps210;go_wp2;go_loopw [9,10] (fun P _ wr=> ∃(f:Nat)(af:Value)(d:List GC),P=Aa (f:Nat)/\f<=b.cs.length/\Hid (d.map GC.sy=(b.cs.take f).map fun a=>⟨a,0,0⟩)/\Hid (RA O X cap B T c V (Ar aa G.length ab) G af d wr K I {S with here:=(IA b.cs j).take f})/\As O A wr/\Hid (∀y∈af::d.map GC.vv,∀i,y.ownBlock=some i->w.heap.size+1<=i)) (fun P _ _=>b.cs.length -(intOf P).toNat)
 case atStart=>exact⟨0,_,[],rfl,by omega,rfl,(by rw[<-ae];exact dy.out),(by rw[<-ae];exact As.refl O A),fun y g i e=>by rw[Hk.1 g] at e;cases e⟩
 case round=>
  have fo:=hcn.2;obtain⟨f,af,d,rfl,fw,HS,r,ad,an⟩:=hrel;have ed:=ad.size;have dm:wr.cell? (Ac w.heap.size 0)=some (.string b.name):=by rw[ad.cell (p:=Ac w.heap.size 0) (by show w.heap.size<_;omega) (by show w.heap.size≠_;omega)];exact e0
  have q1:wr.cell? (Ac w.heap.size 1)=some (Aa (b.kind:Nat)):=by rw[ad.cell (p:=Ac w.heap.size 1) (by show w.heap.size<_;omega) (by show w.heap.size≠_;omega)];exact dk
  have e5:wr.cell? (Ac w.heap.size 4)=some (.slice bx b.cs.length bz):=by rw[ad.cell (p:=Ac w.heap.size 4) (by show w.heap.size<_;omega) (by show w.heap.size≠_;omega)];exact e1
  have dn:wr.cell? (Ac w.heap.size 5)=some (Aa (b.body:Nat)):=by rw[ad.cell (p:=Ac w.heap.size 5) (by show w.heap.size<_;omega) (by show w.heap.size≠_;omega)];exact dl
  have bo:wr.cell? (Ac O 5)=some af:=r.out.cel 5 _ rfl;have co:wr.cell? (Ac O 9)=some (Aa (c:Nat)):=r.out.cel 9 _ rfl;have cv:=r.out.frz 5;have cw:=r.out.frz 9;by_cases bi:f<b.cs.length
  ·have eo:(f:Int)<(b.cs.length:Int):=by omega
   obtain⟨Y,ff,da,_,_⟩:=c8.form (by omega);rw[bh] at da;cases da;have f2:wr.cell? (Ac Y f)=some (.string b.cs[f]):=by have:=(r.out.cvr b (Ct az));rw[bh] at this;rw[this.cellAt f (by omega),CC,Bb bi];rfl
   obtain⟨v,x,rfl,_⟩: ∃t al,af=.slice t d.length al/\d.length<=al:=D9 r.out.hro;have ci:w.heap.size<wr.heap.size:=by omega
   have a0:O<wr.heap.size:=by omega
   have fn:Y<wr.heap.size:=by have:=(r.out.cvr b (Ct az)).lt Y (by rw[bh];rfl);exact this.2
   go_upto_region 7 with fail
   go_cut [10] from 28 to 62 (fun e6 W=> ∃be U:Nat,e6=Al be/\Jz wr b.cs[f] 0 0 be U W)
   case first=>
    go_region;all_goals(go_wp2_with fail;go_meet)
    ·exact⟨_,_,rfl,Afk _ _ 0⟩
    ·exact⟨_,_,rfl,Afl _ _ 0⟩
   case rest=>
    obtain⟨be,U,rfl,a4⟩:=hcut;obtain⟨c4,c5,c6,ai,ac,aj⟩:=id a4;have ex:w.heap.size<wc.heap.size:=by have:=ai.size;omega
    have et:=aj.lt U rfl;have du:=ac 2 _ rfl;have a3:=aj.cellAt 0 (by omega);have d5:=aj.frozenAt 0;rw[Rp] at a3;go_upto_if 45 with fail
    go_cut [] from 28 to 62 (fun W=>Jz wr b.cs[f] 0 (j.getD f 0) be U W)
    case first=>
     by_cases df:f<j.length
     ·have ep:(f:Int)<(j.length:Int):=by omega
      obtain⟨ao,fe,ef,_,ee⟩:=bl.form (by omega);cases ef;have fd:wc.cell? (Ac ao f)=some (Aa j[f]):=by have am:ao≠O:=fun e=>es (by rw[e];rfl);rw[ai.cell (p:=Ac ao f) (by show ao<_;omega),ad.cell (p:=Ac ao f) (by show ao<_;omega) am,dg.cell (p:=Ac ao f) ee am,bl.cellAt f (by omega),CC,Bb df];rfl
      have bw:j.getD f 0=j[f]:=by rw[Dg,Bb df];rfl
      have dz:Hid (Jz _ _ _ _ _ _ _):=a4.set j[f];clear a4 bl;generalize j[f]=ga at*;go_wp2_with fail;go_region;all_goals(go_wp2_with fail;go_meet;rw[bw];exact dz.out.drew)
     ·have ep: ¬(f:Int)<(j.length:Int):=by omega
      have bw:j.getD f 0=0:=by rw[Dg,NQ (by omega)];rfl
      go_wp2_with fail;go_meet;rw[bw];exact a4
    case rest=>
     clear a4 c4 c5 c6 ai ac aj du a3 d5 et ex;obtain⟨c4,c5,c6,ai,ac,aj⟩:=hcut;have E: ∀B:Obj,Ay wr (wc.alloc B).drew:=fun B=>(ai.alloc (by have:=ai.size;omega) _).drew
     have bu:Hid (∀(Z:Obj)(F:World)(n u:Nat),F.ownsRow (O+1) 207 6 (Ar n (d.length+1) u) (d.length+1) (d.flatMap GC.row++[.string b.cs[f],Aa 0,Ar U 1 1,Aa 0,Aw,Aa 0])->(wc.alloc Z).drew.grownBy F (Value.slice v d.length x).ownBlock->((Value.slice v d.length x).ownBlock=some n\/n=(wc.alloc Z).drew.heap.size)-> ∃m:List GC,Hid (m.map GC.sy=(b.cs.take (f+1)).map fun a=>⟨a,0,0⟩)/\Hid (RA O X cap B T c V (Ar aa G.length ab) G (Ar n (d.length+1) u) m (F.setCell ⟨O,5,none⟩ (Ar n (d.length+1) u)) K I {S with here:=(IA b.cs j).take (f+1)})/\As O A (F.setCell ⟨O,5,none⟩ (Ar n (d.length+1) u))/\Hid (∀y∈(Ar n (d.length+1) u)::m.map GC.vv,∀i,y.ownBlock=some i->w.heap.size+1<=i)):=fun Z F n u b8 a5 ak=>by
      have cd:=Cq (w':=(wc.alloc Z).drew) aj fun q e=>((Below.refl wc.heap.size wc).alloc (AA _) Z).drew.block q (aj.lt q e).2;have bj:(d++[(⟨b.cs[f],0,Ar U 1 1,0,Aw,0,[]⟩:GC)]).map GC.sy=(b.cs.take (f+1)).map fun a=>⟨a,0,0⟩:=by rw[E6,HS.out,Mp,Bb bi,E6];rfl
      have eg:wr.heap.size<=(wc.alloc Z).drew.heap.size:=(E Z).size;refine⟨_,bj,?_,(He (ad.trans (As.of_below (E Z))) a5 (fun q e=>by have:=an.out _ (Rt) q e;omega)).setCell _ _,fun y g i e=> ?_⟩
      ·have:=r.out.addH (x:=j.getD f 0) (E Z) cd a5 b8 (fun q e=>by
        have L:n=q:=by injection e
        subst L;rcases ak with p|p
        ·exact .inl p
        ·exact .inr (by omega)) (by
         rw[Dg];cases p:j[f]? with
         |none=>exact⟨by simp,by simp⟩
         |some au=>exact eu au (Ct p)) (Yd hcn bj)
       rw[Ab1 bi];exact this
      ·rcases C0.1 g with rfl|g
       ·have L:n=i:=by injection e
        subst L;rcases ak with p|p
        ·exact an.out _ (Rt) n p
        ·omega
       ·rw[E6] at g;rcases BD.1 g with g|g
        ·exact an.out y (F8 _ g) i e
        ·rw[Hk.1 g] at e;have L:U=i:=by injection e
         have:=(aj.lt U rfl).1;omega
     have dp: ∀B:Obj,(wc.alloc B).drew.cell? (Ac O 5)=some (.slice v d.length x):=fun B=>by rw[(E B).cell (p:=Ac O 5) a0];exact bo
     have dv: ∀B:Obj,(wc.alloc B).drew.frozen? (Ac O 5)=false:=fun B=>by rw[(E B).frozen (p:=Ac O 5) a0];exact cv
     have f3:wc.cell? (Ac O 5)=some (.slice v d.length x):=by rw[ai.cell (p:=Ac O 5) a0];exact bo
     have ca: ∀B:Obj,(wc.alloc B).drew.ownsRow (O+1) 207 6 (.slice v d.length x) d.length (d.flatMap GC.row):=fun B=>Cq r.out.hro fun q e=>(E B).block q (r.out.hro.lt q e).2;have b7: ∀B:Obj,(wc.alloc B).drew.heap[wc.heap.size]? =some B:=fun B=>heap_alloc_new wc B;have am:(Value.slice v d.length x).ownBlock≠some O:=fun e=>by have:=(r.out.hro.lt O e).1;omega
     have de:=r.out.nd.2.2;have f0:O<wc.heap.size:=by have:=ai.size;omega
     obtain⟨cn,b6,ck,cl,cm⟩:=info_parts Tryz.infoCell;have gb:=ac 0 _ rfl;have gc:=ac 1 _ rfl;have du:=ac 2 _ rfl;have gd:=ac 3 _ rfl;have ge:=ac 4 _ rfl;have gf:=ac 5 _ rfl;have a2:Hid _:=And.intro dp dv;clear dp dv;generalize d.flatMap GC.row=cu at*;go_upto_region 10 with fail
     go_region_law
      ((refine step_append_lies _ (by rfl) _ _ _ (by rfl) (O+1) 207 cn _ 6 88 underlying124 b6 ck cl cm rfl (by omega) _ d.length cu (by rfl) (ca _)
         (Ac wc.heap.size 0) 1 1 [.string b.cs[f],Aa 0,Ar U 1 1,Aa 0,Aw,Aa 0] (by rfl) (by rfl) (World.news_of_block (cs:= #[.string b.cs[f],Aa 0,Ar U 1 1,Aa 0,Aw,Aa 0]) (t:=207) (fr:=(0,0)) (b7 _)) (by simp[Value.oneCell'])
         (by omega) (by unfold maxLen;omega) (by omega) (by simp;omega) (wc.heap.size+1) (by simp) ?_;intro n u J cc aq ak em;have ev:J.cell? (Ac O 5)=some (.slice v d.length x):=(by rw[aq.cell_far _ (by simp;omega) (Ey am)];exact a2.out.1 _);have eh:J.frozen? (Ac O 5)=false:=(by rw[aq.frozen_far _ (by simp;omega) (Ey am)];exact a2.out.2 _)))
     all_goals go_wp2
     all_goals(
      go_roundw
      case rel=>
       obtain⟨m,d1,L,d2,d3⟩:=bu.out _ _ n u cc aq (by simpa using ak);exact⟨f+1,_,m,by show _=Value.int .i64 ((f+1:Nat):Int);go_num,bi,d1,L,d2,d3⟩
      case measure=>simp[intOf];omega)
  ·have eo: ¬(f:Int)<(b.cs.length:Int):=by omega
   have a6:f=b.cs.length:=by omega
   subst a6;obtain⟨v,x,rfl,_⟩: ∃t al,af=.slice t d.length al/\d.length<=al:=D9 r.out.hro;have hF:=fun z=>GV ((Kt r.out.hro).drew (w:=wr) z) (by rw[BF];exact r.out.nd.2.2) b.name;obtain⟨ah,b5⟩: ∃ah,ah=A9 (d.map GC.sy) b.name:=⟨_,rfl⟩;rw[<-b5] at hF;have bb:Hid (ah=A9 (d.map GC.sy) b.name):=b5;clear b5;have ci:w.heap.size<wr.heap.size:=by omega
   have a0:O<wr.heap.size:=by omega
   go_wp2_with fail;go_quiet(first|(go_at_call 152;exact Calls.quiet_of_same (hF _)));go_upto_region 12 with fail;obtain⟨R,b9⟩: ∃R:Bool,R=b.own:=⟨_,rfl⟩;have ag:Hid (R=b.own):=b9;have C:R=(decide (b.kind=3)&&ah.isNone):=by have dh:=HS.out;rw[E7] at dh;rw[b9,bb.out,dh,V0];rfl
   clear b9
   go_cut [76] (fun e9 W=>e9=.bool R/\ ∃z,W=wr.drewN z)
   case first=>
    by_cases ar:b.kind=3
    ·rw[show(b.kind:Int)=3 by omega] at q1;rw[ar] at C;clear ar hF bb;cases ah with
     |none=>
      simp only[Es];go_wp2_with fail;go_meet;exact⟨by rw[C];rfl,_,rfl⟩
     |some P=>
      have ej: ¬(P:Int)<0:=by omega
      simp only[Es];go_wp2_with fail;go_meet;exact⟨by rw[C];rfl,_,rfl⟩
    ·have el: ¬(b.kind:Int)=3:=by omega
     go_wp2_with fail;go_meet;exact⟨by rw[C];simp[ar],_,rfl⟩
   case rest=>
    obtain⟨rfl,z,rfl⟩:=hcut;have b2:Ay wr (wr.drewN z):=GG z (Below.refl _ _);have HQ:Hid (RA O X cap B T c V (Ar aa G.length ab) G (.slice v d.length x) d (wr.drewN z) K I {S with here:=IA b.cs j}/\As O A (wr.drewN z)):=⟨by have:=r.out.below b2;rw[I1 (by unfold IA;simp)] at this;exact this,ad.trans (As.of_below b2)⟩;have a1:Hid (d.map GC.sy=b.cs.map fun a=>⟨a,0,0⟩):=by have:=HS.out;rw[E7] at this;exact this
    have e2:(wr.drewN z).cell? (Ac w.heap.size 0)=some (.string b.name):=dm;have e3:(wr.drewN z).cell? (Ac w.heap.size 1)=some (Aa (b.kind:Nat)):=q1;have e4:(wr.drewN z).cell? (Ac w.heap.size 5)=some (Aa (b.body:Nat)):=dn;have dq:(wr.drewN z).cell? (Ac O 5)=some (.slice v d.length x):=bo;have dx:(wr.drewN z).frozen? (Ac O 5)=false:=cv;have ew:w.heap.size<(wr.drewN z).heap.size:=ci;have ch:O<(wr.drewN z).heap.size:=a0;clear r ad HS dm q1 e5 dn bo co cv cw b2 ci a0 ed;generalize wr.drewN z=k at*;go_upto_if 76 with fail
    go_cut [] (fun W=> ∃(av:Value)(m:List GC),Hid (m.map GC.sy=(b.cs.map fun a=>⟨a,0,0⟩)++if R then[⟨b.name,3,0⟩] else[])/\Hid (RA O X cap B T c V (Ar aa G.length ab) G av m W K I {S with here:=IA b.cs j++if R then[(b.name,0)] else[]})/\As O A W/\Hid (∀y∈m,∀i,y.vv.ownBlock=some i->w.heap.size+1<=i))
    case first=>
     cases R with
     |false=>
      go_wp2_with fail;go_meet;exact⟨_,d,by rw[Ae (by simp),IY];exact a1.out,by rw[Ae (by simp),IY];exact HQ.out.1,HQ.out.2,fun y g i e=>an.out _ (F8 _ (CD.2 ⟨y,g,rfl⟩)) i e⟩
     |true=>
      have db:ah=none:=by
       cases ah with
       |none=>rfl
       |some P=>simp at C
      have a6:=MJ (bb.out.symm.trans db);have E: ∀s l:Obj,Ay k ((k.alloc s).alloc l).drew:=fun s l=>(AP.alloc (by simp) _).drew
      have bu:Hid (∀(l:Obj)(F:World)(n u:Nat),F.ownsRow (O+1) 207 6 (Ar n (d.length+1) u) (d.length+1) (d.flatMap GC.row++[.string b.name,Aa 3,Ar k.heap.size 1 1,Aa 0,Aw,Aa 0])->((k.alloc (.cells #[Aa 0] 3)).alloc l).drew.grownBy F (Value.slice v d.length x).ownBlock->((Value.slice v d.length x).ownBlock=some n\/n=((k.alloc (.cells #[Aa 0] 3)).alloc l).drew.heap.size)-> ∃(av:Value)(m:List GC),Hid (m.map GC.sy=(b.cs.map fun a=>⟨a,0,0⟩)++if true then[⟨b.name,3,0⟩] else[])/\Hid (RA O X cap B T c V (Ar aa G.length ab) G av m (F.setCell ⟨O,5,none⟩ (Ar n (d.length+1) u)) K I {S with here:=IA b.cs j++if true then[(b.name,0)] else[]})/\As O A (F.setCell ⟨O,5,none⟩ (Ar n (d.length+1) u))/\Hid (∀y∈m,∀i,y.vv.ownBlock=some i->w.heap.size+1<=i)):=fun l F n u b8 a5 ak=>by
       have bj:(d++[(⟨b.name,3,Ar k.heap.size 1 1,0,Aw,0,[]⟩:GC)]).map GC.sy=(b.cs.map fun a=>⟨a,0,0⟩)++if true then[⟨b.name,3,0⟩] else[]:=by rw[E6,a1.out];rfl
       have en:G1 (d++[(⟨b.name,3,Ar k.heap.size 1 1,0,Aw,0,[]⟩:GC)]):=by
        have ec:=Yd hcn (n:=b.cs.length) (L:=d) (by rw[E7];exact a1.out);have dd:=C4 List.length a1.out;rw[BF,BF] at dd
        have dj: ∀(Q:Nat)(a:GC),(d++[(⟨b.name,3,Ar k.heap.size 1 1,0,Aw,0,[]⟩:GC)])[Q]? =some a->(Q<d.length/\d[Q]? =some a)\/(Q=d.length/\a.name=b.name):=fun Q a t=>by
         by_cases dc:Q<d.length
         ·rw[CR dc] at t;exact .inl ⟨dc,t⟩
         ·have ek:=(BH.1 t).1;simp at ek;have L:Q=d.length:=by omega
          subst L;rw[CS (AA _),I2] at t;cases t;exact .inr ⟨rfl,rfl⟩
        refine⟨fun Q P a i t bg e=> ?_,by have:=hcn.2;simp;omega⟩;rcases dj Q a t with⟨ey,bm⟩|⟨ey,bm⟩<;>rcases dj P i bg with⟨ez,bn⟩|⟨ez,bn⟩
        ·exact ec.1 Q P a i bm bn e
        ·exact absurd (e.trans (by rw[bn])) (a6 a.sy (CD.2 ⟨a,Ct bm,rfl⟩))
        ·exact absurd (e.symm.trans (by rw[bm])) (a6 i.sy (CD.2 ⟨i,Ct bn,rfl⟩))
        ·omega
       have cd:((k.alloc (.cells #[Aa 0] 3)).alloc l).drew.ownsRow k.heap.size 3 1 (Ar k.heap.size 1 1) 1 [Aa 0]:=OJ (AA _) (by
        show(World.alloc _ _).heap[_]? =_;rw[(AP:Below (k.alloc (.cells #[Aa 0] 3)).heap.size _ _).block k.heap.size (by simp)]
        exact heap_alloc_new _ _)
       have eg:=(E (.cells #[Aa 0] 3) l).size;refine⟨Ar n (d.length+1) u,_,bj,?_,(He (HQ.out.2.trans (As.of_below (E _ l))) a5 (fun q e=>by have:=an.out _ (Rt) q e;omega)).setCell _ _,fun y g i e=> ?_⟩
       ·exact HQ.out.1.addH (x:=0) (E _ l) cd a5 b8 (fun q e=>by
         have L:n=q:=by injection e
         subst L;rcases ak with p|p
         ·exact .inl p
         ·exact .inr (by omega)) ⟨by omega,by omega⟩ en
       ·rcases BD.1 g with g|g
        ·exact an.out _ (F8 _ (CD.2 ⟨y,g,rfl⟩)) i e
        ·rw[Hk.1 g] at e;have L:k.heap.size=i:=by injection e
         omega
      have bk:=HQ.out.1.hro;have ca: ∀s l:Obj,((k.alloc s).alloc l).drew.ownsRow (O+1) 207 6 (.slice v d.length x) d.length (d.flatMap GC.row):=fun s l=>Cq bk fun q e=>(E s l).block q (bk.lt q e).2;have a2:Hid (∀s l:Obj,((k.alloc s).alloc l).drew.cell? (Ac O 5)=some (.slice v d.length x)/\((k.alloc s).alloc l).drew.frozen? (Ac O 5)=false):=fun s l=>⟨by rw[(E s l).cell (p:=Ac O 5) ch];exact dq,by rw[(E s l).frozen (p:=Ac O 5) ch];exact dx⟩;have b7: ∀s l:Obj,((k.alloc s).alloc l).drew.heap[k.heap.size+1]? =some l:=fun s l=>by have p:=heap_alloc_new (k.alloc s) l;rw[show(k.alloc s).heap.size=k.heap.size+1 from by simp] at p;exact p
      have am:(Value.slice v d.length x).ownBlock≠some O:=fun e=>by have:=(bk.lt O e).1;omega
      have de:=HQ.out.1.nd.2.2;obtain⟨cn,b6,ck,cl,cm⟩:=info_parts Tryz.infoCell;clear bk db a6 C;generalize d.flatMap GC.row=cu at*;go_upto_region 13 with fail
      go_region_law
       ((refine step_append_lies _ (by rfl) _ _ _ (by rfl) (O+1) 207 cn _ 6 88 underlying124 b6 ck cl cm rfl (by omega) _ d.length cu (by rfl) (ca _ _)
          (Ac (k.heap.size+1) 0) 1 1 [.string b.name,Aa 3,Ar k.heap.size 1 1,Aa 0,Aw,Aa 0] (by rfl) (by rfl) (World.news_of_block (cs:= #[.string b.name,Aa 3,Ar k.heap.size 1 1,Aa 0,Aw,Aa 0]) (t:=207) (fr:=(0,0)) (b7 _ _)) (by simp[Value.oneCell'])
          (by omega) (by unfold maxLen;omega) (by omega) (by simp;omega) (k.heap.size+2) (by simp) ?_;intro n u J cc aq ak em;have ev:J.cell? (Ac O 5)=some (.slice v d.length x):=(by rw[aq.cell_far _ (by simp;omega) (Ey am)];exact(a2.out _ _).1);have eh:J.frozen? (Ac O 5)=false:=(by rw[aq.frozen_far _ (by simp;omega) (Ey am)];exact(a2.out _ _).2)))
      all_goals(
       go_wp2_with fail;go_meet
       exact bu.out _ _ n u cc aq (by simpa using ak))
    case rest=>
     obtain⟨av,m,bd,ba,bf,br⟩:=hcut;have fi:=bf.size;clear HQ a1 e2 e3 e4 dq dx ew ch an hF;have b4: ∀o,wc.cell? (Ac w.heap.size o)=A.cell? (Ac w.heap.size o):=fun o=>bf.cell (p:=Ac w.heap.size o) (by show w.heap.size<_;omega) (by show w.heap.size≠_;omega);have cp:=b4 1;have dr:=b4 5;rw[dk] at cp;rw[dl] at dr;have co:wc.cell? (Ac O 9)=some (Aa (c:Nat)):=ba.out.cel 9 _ rfl;have cw:=ba.out.frz 9;have cy:Hid (RA O X cap B T (c+1) V (Ar aa G.length ab) G av m (wc.setCell ⟨O,9,none⟩ (Aa ((c:Int)+1))) K I {S with here:=b.ent j}):=by have p:=ba.out;rw[ag.out] at p;exact p.par (Kr O 9 wc _) (p.cel.set (o:=9) (by simp[Dy]) (Aa ((c:Int)+1))) (fun o=>by rw[Cu];exact p.frz o) rfl rfl rfl rfl p.use
     have b1:=c7 _ K I _ _ _ cy.out (by have:=bd.out;rw[ag.out] at this;exact this);unfold SP at b1;have fy:(wc.setCell ⟨O,9,none⟩ (Aa ((c:Int)+1))).heap.size=wc.heap.size:=by simp[World.setCell]
     go_upto_region 16 with(go_at_call 122;refine b1.mono ?_;rintro e aw⟨rfl,cx⟩);obtain⟨cs,ct,M,b0⟩:=cx.out;have f1:w.heap.size≠O:=by omega
     have ds:aw.cell? (Ac w.heap.size 1)=some (Aa (b.kind:Nat)):=by
      rw[b0.fr.cell (k:=w.heap.size) (by omega) (by
       rintro(e|⟨y,g,e⟩|e)
       ·omega
       ·rcases BD.1 g with g|g
        ·have:=(bc.out.low y.vv (by unfold BO;simp only[BD,CD];exact .inl (.inl (.inr ⟨y,g,rfl⟩))) _ e).2;omega
        ·have:=br.out y g _ e;omega
       ·have:=(bc.out.low I (by unfold BO;simp) _ e).2;omega) 1,Bh _ _ _ _ (by intro e;cases e)]
      exact cp
     have f6:aw.cell? (Ac O 9)=some (Aa ((c+1:Nat):Int)):=M.cel 9 _ rfl;have fa:aw.cell? (Ac O 5)=some av:=M.cel 5 _ rfl;have fh:=M.frz 9;have d4:=M.frz 5;have bt:Hid _:=RA.leave bc.out M ((dg.trans bf).setCell 9 _) b0 (fun y g i e=>by have:=br.out y g i e;omega) (((As.refl O aw).setCell 9 (Aa (c:Nat))).setCell 5 (.slice t H.length b3)) ((M.cel.set (o:=9) (by simp[Dy]) (Aa (c:Nat))).set (o:=5) (by simp[Dy]) (.slice t H.length b3)) (fun o=>by rw[Cu,Cu];exact M.frz o);obtain⟨fj,fk,cf,_⟩:=D9 M.hro;rw[cf] at fa;have de:=M.nd.2.2;have ay:Hid (RA O X cap B T (c+1) V (Ar aa G.length ab) G av m aw cs ct (rn {S with here:=b.ent j})):=M;clear M b0 cx b1 cy ba c7 bf cp dr co cw b4 bc;go_upto_region 19 with fail
     go_cut [13,120] (fun e8 e7 W=>e8=Aa ((m.length:Int) -1)/\e7=.bool R/\W=aw.setCell ⟨O,9,none⟩ (Aa (c:Nat)))
     case first=>
      clear bt ay bd br bb;by_cases ar:b.kind=3
      ·rw[show(b.kind:Int)=3 by omega] at ds;rw[ar] at C;clear ar;cases ah with
       |none=>
        simp only[Es];go_wp2_with fail;go_meet;exact⟨rfl,by rw[C];rfl,rfl⟩
       |some P=>
        have ej: ¬(P:Int)<0:=by omega
        simp only[Es];go_wp2_with fail;go_meet;exact⟨rfl,by rw[C];rfl,rfl⟩
      ·have el: ¬(b.kind:Int)=3:=by omega
       go_wp2_with fail;go_meet;exact⟨rfl,by rw[C];simp[ar],rfl⟩
     case rest=>
      obtain⟨rfl,rfl,rfl⟩:=hcut;rw[ag.out] at bd;clear C ds;cases C:R with
      |false=>
       rw[C] at ag;go_wp2_with fail;go_ret;exact⟨0,rfl,⟨by omega,by omega⟩,by rw[cz.out,<-ag.out];rfl,cs,ct,bt.out⟩
      |true=>
       rw[C] at ag;have ft:m.length=b.cs.length+1:=by have:=C4 List.length bd.out;rw[<-ag.out] at this;simpa using this
       have g:m[b.cs.length]? =some (m[b.cs.length]'(by omega)):=Bb _;obtain⟨gg,bq,_,a9⟩:=ay.out.hv.2 _ _ g;unfold RS.hs at bq;rw[CC] at bq;obtain⟨⟨dw,ax⟩,cj,rfl⟩:=D5.1 bq;obtain⟨bg,fm,di,_,c9⟩:=Gt ay.out.hro g;rw[cf] at di;cases di;obtain⟨U,f9,cg,_,_⟩:=a9.form (by simp);have d0:=c9 2 (by omega);rw[show(m[b.cs.length]'(by omega)).row[2]? =some (m[b.cs.length]'(by omega)).vv from rfl,cg] at d0;rw[cg] at a9;have a3:=a9.cellAt 0 (by simp);have fg:aw.cell? (Ac U 0)=some (Aa ax):=a3;have c0:Hid (VB ax/\ax=bp):=⟨ay.out.bnd.1 (dw,[ax]) (J6 _ (CD.2 ⟨(dw,ax),Ct cj,rfl⟩)) ax (by simp),by rw[cz.out,<-ag.out,Ag rfl,Dg,cj];rfl⟩;have fz:U≠O:=by have:=(a9.lt U rfl).1;omega
       have fq:bg≠O:=by have:=(ay.out.hro.lt bg (by rw[cf];rfl)).1;omega
       rw[show(m.length:Int) -1=(b.cs.length:Int) by omega];have fu:(b.cs.length:Int)<(m.length:Int):=by omega
       clear a9 a3 c9 bq cj g cg ay;go_wp2_with fail;go_ret;exact⟨ax,rfl,c0.out.1,c0.out.2,cs,ct,bt.out⟩
end
