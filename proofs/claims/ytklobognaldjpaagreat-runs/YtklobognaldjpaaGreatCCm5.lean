/- The machine: a new one. A list of numbers in memory. The pro -/
import Derived.Test.YtklobognaldjpaaGreatCGn1
import Derived.Deep.AppendLies
import Derived.Laws.OwnMore
import Derived.Deep.CutBlock
import Derived.Deep.DeepCutAuto
import Derived.Maps.OwnSet
set_option maxRecDepth 1000000
set_option maxHeartbeats 4000000
namespace Go.Proofs.YtklobognaldjpaaGreat
open Go.Proofs.Tryz
open Go.RowKit
section
variable{wb wc:Nat}{W:List Nat}{Q:AW}{w V:World}{vi:Value}
def AaN(wb wc:Nat)(W:List Nat)(Q:AW)(st J N:Nat)(xs:List Int)(vi:Value)(w:World)(c:Ending)(V:World):Prop:=
 c=.returned (Al (w.heap.size+2))/\Ay w V/\ ∃a,(∀b,a.has b->w.heap.size<=b)/\MC (w.heap.size+2) wb wc W Q V (m0 (W,st,J) xs) N 0 false a vi
section
variable{st J N:Nat}{xs:List Int}(hq: ∀b,Q b->b<w.heap.size)(hqw:Q wb)(R: ∀j x,W[j]? =some x->w.cell? (Ac wb j)=some (Aa (x:Nat)))(C:KL Q w vi xs)(D:Ga xs)(hpl:J<=1000000)
include hq hqw R C D hpl
theorem Afo(d:Array Value)(e:TypeId)(c:Array Value)(f:TypeId)
 (s:c= #[Ar wb W.length wc,Aa (st:Nat),Ar (w.heap.size+1) J J,Aw,Aa 0,Aw,vi,Aa (N:Nat),Aa 0,Aa 0,Aw,Aa 0,.bool false,.bool false]){k:Nat}:
 Ay w ((((w.alloc (.cells d e)).alloc (.cells (madeCells #[.int .i32 0] (J*1)) 21)).alloc (.cells c f)).drewN k)/\ ∃m,(∀b,m.has b->w.heap.size<=b)/\MC (w.heap.size+2) wb wc W Q ((((w.alloc (.cells d e)).alloc (.cells (madeCells #[.int .i32 0] (J*1)) 21)).alloc (.cells c f)).drewN k) (m0 (W,st,J) xs) N 0 false m vi:=by
 have q:(w.alloc (.cells d e)).heap.size=w.heap.size+1:=by simp
 have n:((w.alloc (.cells d e)).alloc (.cells (madeCells #[.int .i32 0] (J*1)) 21)).heap.size=w.heap.size+2:=by simp
 have i:Ay w (((w.alloc (.cells d e)).alloc (.cells (madeCells #[.int .i32 0] (J*1)) 21)).alloc (.cells c f)):=(AP.alloc (by simp) _).alloc (by simp<;>omega) _;have r:Ay w ((((w.alloc (.cells d e)).alloc (.cells (madeCells #[.int .i32 0] (J*1)) 21)).alloc (.cells c f)).drewN k):=i.trans ((Below.drewN' k _).mono i.size);have t: ∀o,(((w.alloc (.cells d e)).alloc (.cells (madeCells #[.int .i32 0] (J*1)) 21)).alloc (.cells c f)).cell? (Ac (w.heap.size+2) o)=c[o]? :=fun o=>by rw[<-n];exact Cl _ c f o
 have u: ∀o,(((w.alloc (.cells d e)).alloc (.cells (madeCells #[.int .i32 0] (J*1)) 21)).alloc (.cells c f)).frozen? (Ac (w.heap.size+2) o)=false:=fun o=>by rw[<-n];exact Gc _ c f o
 have z:(((w.alloc (.cells d e)).alloc (.cells (madeCells #[.int .i32 0] (J*1)) 21)).alloc (.cells c f)).ownsRow 0 21 1 (Ar (w.heap.size+1) J J) (List.replicate J (0:Int)).length ((List.replicate J (0:Int)).map (.int .i32)):=by have p:=World.ownsRow_lit (base:=0) (e:=21) (size:=1) (w.alloc (.cells d e)) (madeCells #[.int .i32 0] (J*1)) J (B6 _) (by unfold maxLen;omega) (size_madeCells _ _);rw[toList_madeCells_one,q,Mr] at p;rw[Ml,List.map_replicate,Mr];exact p.alloc _
 have l: ∀b,(⟨Ar (w.heap.size+1) J J,Aw,Aw,Aw⟩:MR).has b->b=w.heap.size+1:=by
  rintro b(a|a|a|a)
  ·exact(FH a).symm
  ·cases a
  ·cases a
  ·cases a
 refine⟨r,⟨Ar (w.heap.size+1) J J,Aw,Aw,Aw⟩,fun b g=>by have:=l b g;omega,MC.below (w:=((w.alloc (.cells d e)).alloc (.cells (madeCells #[.int .i32 0] (J*1)) 21)).alloc (.cells c f)) ⟨?_,u,?_⟩ (Below.drewN' k _)⟩
 ·intro o v h;rw[t,s];rw[<-h];simp[IJ,m0]
 ·refine⟨z,World.ownsRow_nil _ _ _ _,World.ownsRow_nil _ _ _ _,World.ownsRow_nil _ _ _ _,C.same fun b g=>i.block b (hq b g),fun j x y=>by rw[i.cell (p:=Ac wb j) (hq wb hqw)];exact R j x y,fun k _ a=>(by cases a),fun k _ a=>(by cases a),fun k _ a=>(by cases a),fun k a=>(by cases a),fun k a=>(by cases a),fun k a=>(by cases a),hqw,fun b g=> ?_,fun a=> ?_,?_,?_,fun v h=>(by cases h),D,B6 _,B6 _⟩
  ·have:=hq b g;refine⟨by simp;omega,by omega,fun a=> ?_⟩;have:=l b a;omega
  ·have:=l _ a;omega
  ·simp
  ·intro v h;rw[Rl h];omega
theorem Afm:
 Ah 71 #[.agg #[Ar wb W.length wc,Aa (st:Nat),Aa (J:Nat)],vi,Aa (N:Nat)] w (AaN wb wc W Q st J N xs vi w):=by
 obtain⟨l,c,d,e,f⟩:=info_parts Tryz.infoI32;have j:=fun h=>run_make (P:=prog) h 129 21 l (.int .i32 0) underlying129 c d .i64 .i64 (J:Int) (J:Int) (by omega) (Int.le_refl _) (by rw[f];omega) (by omega);simp only[Lo,e] at j;have a:=fun b n m(i:b= #[Ar wb W.length wc,Aa (st:Nat),Ar (w.heap.size+1) J J,Aw,Aa 0,Aw,vi,Aa (N:Nat),Aa 0,Aa 0,Aw,Aa 0,.bool false,.bool false])=>Afo hq hqw R C D hpl #[Ar wb W.length wc,Aa (st:Nat),Aa (J:Nat)] 134 b n i (k:=m);rw[Mr] at a;have g:Hid _:=a;obtain⟨o,p,k,_⟩:=C;subst k;clear a R D hq hqw c d e f;go_enter func71,ntmps71;go_wp2;go_region;all_goals go_wp2
 all_goals go_ret
 all_goals exact⟨rfl,g.out _ _ 1 rfl⟩
end
end
def En(w:World)(v:Value)(a:List Int):Prop:=
 ∃d cap,v=.slice d a.length cap/\a.length<=maxLen/\(∀n∈a,-9223372036854775808<=n/\n<=9223372036854775807)/\
  (a=[]\/ ∃b off,d=some (Ac b off)/\b<w.heap.size/\ ∀c,c<a.length->w.cell? (Ac b (off+c))=some (Aa (a.getD c 0)))
def Ej(b:List Int):Bool:=b.all fun a=>decide (-2147483648<=a/\a<=2147483647)
def US(a:List Int)(w:World)(b:Ending)(V:World):Prop:=
 Ay w V/\((Ej a=true/\ ∃vi,b=.returned (.tuple #[vi,.bool true])/\V.ownsRow w.heap.size 21 1 vi a.length (a.map (.int .i32)))\/(Ej a=false/\b=.returned (.tuple #[Aw,.bool false])))
theorem Aja(v:Value)(a:List Int)(w:World)(C:En w v a)(ak:a.length<=35184372088831):
 Ah 70 #[v] w (US a w):=by
 obtain⟨J,u,G,H,I⟩:=info_parts Tryz.infoI32;obtain⟨T,cap,rfl,al,D,t⟩:=C;have S:Hid (∀n∈a,-9223372036854775808<=n/\n<=9223372036854775807):=D;have P:Hid (a=[]\/ ∃b off,T=some (Ac b off)/\b<w.heap.size/\ ∀e,e<a.length->w.cell? (Ac b (off+e))=some (Aa (a.getD e 0))):=t;clear D t;go_enter func70,ntmps70
 go_wp2_with(at_make;refine wpList_make_own _ rfl _ _ 129 rfl w.heap.size 21 J _ 1 underlying129 u G H .i64 .i64 _ a.length rfl rfl rfl (by rw[I];omega) (by unfold maxLen;omega) (AA _) ?_
             intro ag ad g)
 have Z:Ay w ag:=⟨g.os,g.tape,g.output,g.size,fun m x=>g.block m x (by simp)⟩;go_loopw [4,6,12] (fun af _ e wr=> ∃j:Nat,e=Aa j/\j<=a.length/\Ej (a.take j)=true/\wr.ownsRow w.heap.size 21 1 af j ((a.take j).map (.int .i32))/\Ay w wr) (fun _ _ e _=>a.length -(intOf e).toNat)
 case atStart=>exact⟨0,rfl,B6 _,rfl,by simpa using ad,Z⟩
 case round=>
  obtain⟨j,rfl,ai,l,i,f⟩:=hrel;by_cases d:j<a.length
  ·rcases P.out with W|⟨b,off,rfl,aa,ab⟩
   ·rw[W] at d;simp at d
   ·have ah:wr.cell? (Ac b (off+j))=some (Aa a[j]):=by rw[f.cell (p:=Ac b (off+j)) aa,ab j d];simp[List.getD,d]
    have an:=S.out a[j] (D4 d);have B:a.take (j+1)=a.take j++[a[j]]:=by rw[Mp,Bb d];rfl
    have HS:Hid (a.take (j+1)=a.take j++[a[j]]):=B;have O:Hid (¬(-2147483648<=a[j]/\a[j]<=2147483647)->Ej a=false):=fun A=>by unfold Ej;rw[List.all_eq_false];exact⟨a[j],D4 d,by simpa using A⟩
    clear B;have aj:(j:Int)<(a.length:Int):=by omega
    generalize a[j]=c at*;by_cases F: -2147483648<=c/\c<=2147483647
    ·have X: ¬c< -2147483648:=by omega
     have Y: ¬c>2147483647:=by omega
     have ao:IntKind.i32.wrap c=c:=by rw[KZ];unfold BW Int.bmod;simp only;split<;>omega
     have z:=i.alloc (.cells #[.int .i32 c] 21)
     have ac: ∀k o,[Value.int .i32 c][k]? =some o->(wr.alloc (.cells #[.int .i32 c] 21)).cell? (((Ac wr.heap.size 0):Addr).add k)=some o:=by
      intro k o hq;cases k with
      |zero=>simp at hq;subst hq;exact Cl wr #[.int .i32 c] 21 0
      |succ k=>simp at hq
     have ae:w.heap.size<=(wr.alloc (.cells #[.int .i32 c] 21)).heap.size:=by have:=f.size;simp;omega
     have R:Hid (Ej (a.take (j+1))=true):=by show _=_;rw[HS.out];unfold Ej at l⊢;rw[List.all_append,l];simp[F]
     have p:=f;obtain⟨L,M,q⟩:=GR i;subst q
     go_wp2_with(at_builtin;refine Gw rfl _ _ 129 rfl w.heap.size 21 J _ 1 4 underlying129 u G H I rfl (by decide) _ _ _ rfl z (Ac wr.heap.size 0) 1 1 [.int .i32 c] rfl (by simp) ac ?h1 ?h63 ?hby ?hbase ?hh
                 case h1=>intro o E;simp at E;subst E;rfl
                 case h63=>unfold maxLen;omega
                 case hby=>omega
                 case hbase=>exact ae
                 intro K N y h am;have s:Hid (Ay w N/\N.ownsRow w.heap.size 21 1 K (j+1) ((a.take (j+1)).map (.int .i32))):=⟨(p.alloc p.size _).trans ⟨h.os,h.tape,h.output,h.size,fun m x=>h.block m (by have:=p.size;simp;omega) (fun U=>by have:=(z.lt m U.symm).1;omega)⟩,by rw[HS.out,E6];exact y⟩
                 obtain⟨ap,aq,rfl⟩:=GR y)
     go_roundw
     case rel=>exact⟨j+1,by go_num,by omega,R.out,s.out.2,s.out.1⟩
     case measure=>simp[intOf];omega
    ·have Q:=O.out F;have r:Hid _:=Q;by_cases X:c< -2147483648
     ·go_wp2;refine bodyPost_ret (v:=.tuple #[Aw,.bool false]) (by simp[results,results70,go_sem]) rfl ?_;exact⟨f,.inr ⟨r.out,rfl⟩⟩
     ·have Y:c>2147483647:=by omega
      go_wp2;refine bodyPost_ret (v:=.tuple #[Aw,.bool false]) (by simp[results,results70,go_sem]) rfl ?_;exact⟨f,.inr ⟨r.out,rfl⟩⟩
  ·have V:j=a.length:=by omega
   subst V;rw[E7] at l i;obtain⟨L,M,q⟩:=GR i;subst q;go_wp2;refine bodyPost_ret (v:=.tuple #[.slice L a.length M,.bool true]) (by simp[results,results70,go_sem]) rfl ?_;exact⟨f,.inl ⟨l,_,rfl,i⟩⟩
theorem Tryz.zeroGlobal(w:World):(zeroValue 245).run prog w=.ok (Ci (0,0)) w:=by
 have h:(prog.info? 245).map (fun a=>a.zero)=some (some (Ci (0,0))):=by kernel_rfl
 obtain⟨a,b,c⟩:=D5.1 h;simp[zeroValue,typeInfo,b,c]
theorem Tryz.zeroInt(w:World):(zeroValue 3).run prog w=.ok (Aa 0) w:=by
 have h:(prog.info? 3).map (fun a=>a.zero)=some (some (Aa 0)):=by kernel_rfl
 obtain⟨a,b,c⟩:=D5.1 h;simp[zeroValue,typeInfo,b,c]
theorem Dh.lookupG{w:World}{b n:Nat}{c:Af->Nat×Nat}(h:Dh w b n c){key:Af}(d:key.size<=maxLen):
 (Instr.lookup 170 (.map (some b)) (.string key) false).run prog w=.ok (Ci (c key)) w:=by
 obtain⟨i,e,_,f⟩:=h;obtain⟨v,j,g,a⟩:=e.lookup Tryz.keyedStr underlying170 (Tryz.zeroGlobal w) (zd:=.held (Ci (0,0))) (zp:=[]) rfl (WideMaps.keyOf_string_mk underlying9 d);rw[f key d] at a;unfold O0 at a;simp only[Pl,J8,DataW.held.injEq] at a;rw[<-a.1];exact g
theorem Af2(a:Af->Nat×Nat)(n:Af)(x:Nat×Nat):Ik a n x=B9 a n x:=by
 funext k;unfold Ik B9 AS;rfl
theorem Dh.updateG{w:World}{b n:Nat}{f:Af->Nat×Nat}(h:Dh w b n f){key:Af}(p:key.size<=maxLen)(A:n<maxLen)(s:Nat×Nat):
 ∃V,(Instr.mapUpdate 170 (.map (some b)) (.string key) (Ci s)).run prog w=.ok () V/\Dh V b (n+1) (B9 f key s)/\w.grownBy V (some b):=by
 obtain⟨r,k,g,l⟩:=h;have i:=WideMaps.keyOf_string_mk (P:=prog) underlying9 p;obtain⟨V,D,m,o⟩:=k.update Tryz.keyedStr underlying170 A i (val:=Ci s) (d:=.held (Ci s)) (ps:=[]) rfl;refine⟨V,D,⟨_,m,g.put _ _,fun d q=> ?_⟩,o⟩;rw[<-Af2];unfold Ik;by_cases a:(key.toList==d.toList)=true
 ·have c:key.toList=d.toList:=by simpa using a
  rw[Ag a];rw[EU,EU] at c;rw[<-c];exact Maps.atKey_put_same g (Tryz.keyedStr.key i) _ _
 ·rw[Ae a];have c:d.data.toList≠key.data.toList:=fun e=>a (by rw[EU,EU,e];simp);rw[Maps.atKey_put_other (by intro e;injection e with j;exact c j)];exact l d q
section
variable{w:World}{b n:Nat}{l:Af->Option Nat}{many:Nat}
theorem G0.look(h:G0 w b n l many){key:Af}(c:key.size<=maxLen):
 (Instr.lookup 171 (.map (some b)) (.string key) true).run prog w=.ok (.tuple #[Aa ((l key).getD 0:Nat),.bool (l key).isSome]) w:=by
 obtain⟨j,f,_,_,g⟩:=h;obtain⟨v,k,i,a⟩:=f.look_ok Tryz.keyedStr underlying171 (Tryz.zeroInt w) (zd:=.held (Aa 0)) (zp:=[]) rfl (WideMaps.keyOf_string_mk underlying9 c);obtain⟨d,e⟩:=g key c;rw[e] at a;unfold O0 at a;simp only[Pl,J8,DataW.held.injEq] at a;rw[<-a.1,<-d];exact i
theorem G0.len(h:G0 w b n l many)(a:TypeId):(Builtin.len_ #[171] a #[.map (some b)]).run prog w=.ok (Aa many) w:=by obtain⟨e,c,_,d,_⟩:=h;rw[c.len underlying171 a,d]
theorem Aem(w:World){key:Af}(a:key.size<=maxLen):(Instr.lookup 171 (.map none) (.string key) true).run prog w=.ok (.tuple #[Aa 0,.bool false]) w:=
 Maps.look_nil true Tryz.keyedStr underlying171 (Tryz.zeroInt w) (WideMaps.keyOf_string_mk underlying9 a)
theorem Ael(w:World):G0 (w.alloc (.map #[] 0)) w.heap.size 0 (fun _=>none) 0:=
 ⟨.map [],World.ownsMap_made w _ _ _,Maps.tidy_empty,rfl,fun _ _=>⟨rfl,rfl⟩⟩
def Qz(l:Af->Option Nat)(n:Af)(a:Nat):Af->Option Nat:=fun x=>if AS n x then some a else l x
theorem G0.put(h:G0 w b n l many){key:Af}(k:key.size<=maxLen)(A:n<maxLen)(v:l key=none)(f:Nat):
 ∃V,(Instr.mapUpdate 171 (.map (some b)) (.string key) (Aa f)).run prog w=.ok () V/\G0 V b (n+1) (Qz l key f) (many+1)/\w.grownBy V (some b):=by
 obtain⟨x,q,e,r,j⟩:=h;have m:=WideMaps.keyOf_string_mk (P:=prog) underlying9 k;obtain⟨V,D,s,t⟩:=q.update Tryz.keyedStr underlying171 A m (val:=Aa f) (d:=.held (Aa f)) (ps:=[]) rfl;have i:=Tryz.keyedStr.key m;refine⟨V,D,⟨_,s,e.put i _,?_,fun a u=> ?_⟩,t⟩
 ·rw[Maps.size_put e,(j key k).1,v,r];rfl
 ·unfold Qz AS;by_cases c:(key.toList==a.toList)=true
  ·have d:key.toList=a.toList:=by simpa using c
   rw[Ag c];rw[EU,EU] at d;rw[<-d];exact⟨Maps.has_put_same e.isMap i _,Maps.atKey_put_same e.isMap i _ _⟩
  ·rw[Ae c];have d:a.data.toList≠key.data.toList:=fun g=>c (by rw[EU,EU,g];simp);have o:(Lit.string a.data.toList)≠ .string key.data.toList:=by intro g;injection g with p;exact d p
   rw[Maps.has_put_other o,Maps.atKey_put_other o];exact j a u
variable{base O Y Z I:Nat}{X:Option Nat}{V:World}{M:Ck}{v K:Value}
section
variable(h:MK base O Y Z I X w M v)
include h
theorem MK.drewN(a:Nat):MK base O Y Z I X (w.drewN a) M v:=h.below (Below.drewN' a w)
theorem MK.stored{a cap:Nat}(n:v=Ar a M.words.length cap)(j:Nat)(c:Int):
 MK base O Y Z I X (w.setCell (Ac a j) (Aa c)) {M with words:=M.words.set j c} v/\Mv O v v w (w.setCell (Ac a j) (Aa c)):=by
 subst n;obtain⟨_,p,m,l,k⟩:=h.row a rfl;have g: ∀b,b≠a->(w.setCell (Ac a j) (Aa c)).heap[b]? =w.heap[b]? :=fun b f=>Below.heap_setCell _ _ _ _ f;have e: ∀o,(w.setCell (Ac a j) (Aa c)).cell? (Ac O o)=w.cell? (Ac O o):=fun o=>Bh _ _ _ _ (by intro d;cases d;exact m rfl);refine⟨⟨?_,?_,?_,?_,?_,?_,?_,?_,?_,h.lnil,h.mlt,?_,h.gne,h.lne⟩,?_,.inl rfl⟩
 ·rw[e];exact h.wd
 ·rw[e];exact h.pl
 ·rw[e];exact h.gl
 ·rw[e];exact h.lo
 ·rw[e];exact h.rs
 ·intro o;rw[Cu];exact h.frz o
 ·have i:=h.own.stored j (Aa c);rw[Lq,J5];exact i.1
 ·exact h.gmap.block (g Y (Ey l))
 ·intro b f;exact(h.lmap b f).block (g b (fun d=>k b f d.symm))
 ·have:=h.bas;simp[World.setCell];omega
 ·exact⟨rfl,rfl,rfl,by simp[World.setCell],fun b f A=>g b (fun d=>A (.inr (by rw[d];rfl)))⟩
theorem N1{a:Nat}(f:a+1<M.words.length)(U:M.words.length<=1000000):
 Ah 184 #[Al O,Aa a] w fun i V=>i=.returned A6/\MK base O Y Z I X V {M with words:=M.words.set (a+1) M.words.length} v/\Mv O v v w V:=by
 obtain⟨b,cap,g,_,_⟩:=h.own.form (by omega);have R:=h.wd;have c:=h.own;rw[g] at R c;have d:=c.cellAt (a+1) (by simpa using f);rw[CC,Bb f] at d;have j:w.cell? (Ac b (a+1))=some (Aa M.words[a+1]):=d;have k:w.frozen? (Ac b (a+1))=false:=c.frozenAt (a+1);have e:Aside (MK base O Y Z I X (w.setCell (Ac b (a+1)) (Aa M.words.length)) {M with words:=M.words.set (a+1) M.words.length} v/\Mv O v v w (w.setCell (Ac b (a+1)) (Aa M.words.length))):=h.stored g (a+1) M.words.length;have l:((a:Int)+1)<M.words.length:=by omega
 clear d c;go_enter func184,ntmps184;go_wp2;go_region;all_goals go_wp2
 all_goals go_end0
 all_goals exact⟨rfl,e.out.1.below (Below.refl _ _).drew,e.out.2.trans (Mv.of_below (Below.refl _ _).drew)⟩
theorem MK.len(a:TypeId):(Builtin.len_ #[171] a #[.map X]).run prog w=.ok (Aa M.E.n) w:=by
 cases c:X with
 |none=>rw[(h.lnil c).2];exact Maps.len_nil underlying171 a
 |some b=>exact(h.lmap b c).len a
theorem MK.look{n:Af}(A:n.size<=maxLen):(Instr.lookup 171 (.map X) (.string n) true).run prog w=.ok (.tuple #[Aa ((M.E.l n).getD 0:Nat),.bool (M.E.l n).isSome]) w:=by
 cases a:X with
 |none=>rw[(h.lnil a).1 n];exact Aem w A
 |some b=>exact(h.lmap b a).look A
theorem Y6:
 Ah 154 #[Al O] w fun a V=>a=.returned (Aa M.E.n)/\V=w:=by
 have c:=h.lo;have b:=h.len;go_enter func154,ntmps154;go_wp2;go_ret;exact⟨rfl,rfl⟩
end
def BZ(base O Y Z I:Nat)(X:Option Nat)(a:Ck)(v:Value)(w:World)(b:Ending)(V:World):Prop:=
 b=.returned A6/\ ∃K,MK base O Y Z I X V a K/\Mv O v K w V
def Ck.more(M:Ck)(a:List Int):Ck:={M with words:=M.words++a}
theorem Nh(W:World)(b:List Int)(e:TypeId): ∀j a,(b.map (Value.int .i64))[j]? =some a->(W.alloc (.cells (b.map (Value.int .i64)).toArray e)).cell? (((Ac W.heap.size 0):Addr).add j)=some a:=by
 intro j a d
 have c:((Ac W.heap.size 0):Addr).add j=(Ac W.heap.size j):=by
  cases j with
  |zero=>simp[Addr.add]
  |succ j=>simp[Addr.add]
 rw[c,Cl];simpa using d
section
variable(h:MK base O Y Z I X w M v)
include h
theorem MY{W:World}(b:Ay w W){c l:Nat}{a:List Int}(k: ∀j d,(a.map (Value.int .i64))[j]? =some d->W.cell? (((Ac c 0):Addr).add j)=some d)(U:M.words.length+a.length<=1000000):
 Ah 101 #[Al O,Ar c a.length l] W fun e V=>e=.returned (Aa M.words.length)/\ ∃K,MK base O Y Z I X V (M.more a) K/\Mv O v K w V:=
 (AdW (h.below b) k U).mono fun _ _⟨i,K,f,g⟩=>⟨i,K,f,(Mv.of_below b).trans g⟩
theorem Xd(b:Obj)(a:List Int)(c:TypeId)(U:M.words.length+a.length<=1000000):
 Ah 101 #[Al O,Ar (w.heap.size+1) a.length a.length] ((w.alloc b).alloc (.cells (a.map (Value.int .i64)).toArray c)).drew
  fun d V=>d=.returned (Aa M.words.length)/\ ∃K,MK base O Y Z I X V (M.more a) K/\Mv O v K w V:=by
 refine MY h (((Below.refl _ _).alloc (AA _) b).alloc (by simp) _).drew ?_ U;have:=Nh (w.alloc b) a c;rw[show(w.alloc b).heap.size=w.heap.size+1 from by simp] at this;exact this
theorem Xe(b:Obj)(a:List Int)(c:TypeId)(U:M.words.length+a.length<=1000000):
 Ah 101 #[Al O,Ar (w.heap.size+1) a.length a.length] ((w.alloc b).alloc (.cells (a.map (Value.int .i64)).toArray c)).drew.drew
  fun d V=>d=.returned (Aa M.words.length)/\ ∃K,MK base O Y Z I X V (M.more a) K/\Mv O v K w V:=by
 refine MY h ((((Below.refl _ _).alloc (AA _) b).alloc (by simp) _).drew).drew ?_ U;have:=Nh (w.alloc b) a c;rw[show(w.alloc b).heap.size=w.heap.size+1 from by simp] at this;exact this
theorem AdV(b:Obj)(a:List Int)(c:TypeId)(U:M.words.length+a.length<=1000000):
 Ah 101 #[Al O,Ar (w.heap.size+1) a.length a.length] ((w.alloc b).alloc (.cells (a.map (Value.int .i64)).toArray c)).drew.drew.drew
  fun d V=>d=.returned (Aa M.words.length)/\ ∃K,MK base O Y Z I X V (M.more a) K/\Mv O v K w V:=by
 refine MY h (((((Below.refl _ _).alloc (AA _) b).alloc (by simp) _).drew).drew).drew ?_ U;have:=Nh (w.alloc b) a c;rw[show(w.alloc b).heap.size=w.heap.size+1 from by simp] at this;exact this
end
theorem PN(a b:Int)(w:World):(Instr.field 245 (.agg #[Aa a,Aa b]) 0).run prog w=.ok (Aa a) w:=by kernel_rfl
theorem AcJ(a b:Int)(w:World):(Instr.field 245 (.agg #[Aa a,Aa b]) 1).run prog w=.ok (Aa b) w:=by kernel_rfl
section
variable(h:MK base O Y Z I X w M v){n:Af}(A:n.size<=maxLen)(p:Nat)(U:M.words.length+2<=1000000)
include h A p U
abbrev Au(l:List Nat):List Int:=l.map Int.ofNat
theorem AcP:
 Ah 181 #[Al O,.agg #[.string n,Aa p]] w (BZ base O Y Z I X (M.more (Au (M.E.get n))) v w):=by
 have t:=h.lt;have d: ∀a,Ay w (w.alloc a):=fun a=>AP;have s: ∀a,(w.alloc a).cell? (Ac O 3)=some (.map X):=fun a=>(h.below (d a)).lo;have r: ∀a,(w.alloc a).cell? (Ac O 2)=some (.map (some Y)):=fun a=>(h.below (d a)).gl;have k:=fun a=>(h.below ((d a).drew)).look A;have q:=PN;cases c:M.E.l n with
 |some j=>
  rw[c] at k;have b:M.E.get n=[5,j]:=by unfold CE.get;rw[c]
  rw[b];have e:=fun a=>Xd h a [5,(j:Int)] 3 (by simpa using U);go_enter func181,ntmps181;go_wp2;go_region;all_goals go_wp2_with(go_at_call 101;refine(e _).mono ?_;rintro b m⟨rfl,i,f,g⟩)
  all_goals go_end0
  all_goals exact⟨rfl,i,f,g⟩
 |none=>
  rw[c] at k;have b:M.E.get n=[3,(M.E.g n).1]:=by unfold CE.get;rw[c]
  rw[b];have l:=fun a=>(h.below (((d a).drew).drew)).gmap.lookupG A;have e:=fun a=>Xe h a [3,((M.E.g n).1:Int)] 3 (by simpa using U);unfold Ci at l;generalize M.E.g n=o at*;go_enter func181,ntmps181;go_wp2;go_region;all_goals go_wp2
  all_goals go_region_with (go_at_call 101;refine(e _).mono ?_;rintro b m⟨rfl,i,f,g⟩)
  all_goals go_wp2
  all_goals go_end0
  all_goals exact⟨rfl,i,f,g⟩
theorem Zl:
 Ah 156 #[Al O,.agg #[.string n,Aa p]] w (BZ base O Y Z I X (M.more (Au (M.E.set n))) v w):=by
 have B:=h.lt;have c: ∀a,Ay w (w.alloc a):=fun a=>AP;have z: ∀a,(w.alloc a).cell? (Ac O 3)=some (.map X):=fun a=>(h.below (c a)).lo;have y: ∀a,(w.alloc a).cell? (Ac O 2)=some (.map (some Y)):=fun a=>(h.below (c a)).gl;have C: ∀a,(w.alloc a).cell? (Ac O 4)=some (.string M.E.res):=fun a=>(h.below (c a)).rs;have k:=fun a=>(h.below ((c a).drew)).look A;have x:=PN;cases f:M.E.l n with
 |some j=>
  rw[f] at k;have b:M.E.set n=[6,j]:=by unfold CE.set;rw[f]
  rw[b];have d:=fun a=>Xd h a [6,(j:Int)] 3 (by simpa using U);go_enter func156,ntmps156;go_wp2;go_region;all_goals go_wp2_with(go_at_call 101;refine(d _).mono ?_;rintro b m⟨rfl,i,e,g⟩)
  all_goals go_end0
  all_goals exact⟨rfl,i,e,g⟩
 |none=>
  rw[f] at k;have q:=fun a=>Y6 (h.below (((c a).drew).drew));by_cases D:AS n M.E.res=true
  ·have b:M.E.set n=[6,M.E.n]:=by unfold CE.set;rw[f];simp only[D,Hr]
   rw[b];have r:(n.toList==M.E.res.toList)=true:=D;have d:=fun a=>Xe h a [6,(M.E.n:Int)] 3 (by simpa using U);generalize M.E.res=s at*;generalize M.E.n=t at*;go_enter func156,ntmps156;go_wp2;go_region;all_goals go_wp2
   all_goals go_region
   all_goals go_wp2_with(first|(go_at_call 154;refine Aq (q _) ?_)|(go_at_call 101;refine(d _).mono ?_;rintro b m⟨rfl,i,e,g⟩))
   all_goals go_end0
   all_goals exact⟨rfl,i,e,g⟩
  ·have l:AS n M.E.res=false:=by simpa using D
   have b:M.E.set n=[4,(M.E.g n).1]:=by unfold CE.set;rw[f];simp only[l];rfl
   rw[b];have r:(n.toList==M.E.res.toList)=false:=l;have o:=fun a=>(h.below ((((c a).drew).drew).drew)).gmap.lookupG A;have d:=fun a=>AdV h a [4,((M.E.g n).1:Int)] 3 (by simpa using U);unfold Ci at o;generalize M.E.g n=u at*;generalize M.E.res=s at*;go_enter func156,ntmps156;go_wp2;go_region;all_goals go_wp2
   all_goals go_region
   all_goals go_wp2
   all_goals go_region_with (go_at_call 101;refine(d _).mono ?_;rintro b m⟨rfl,i,e,g⟩)
   all_goals go_wp2
   all_goals go_end0
   all_goals exact⟨rfl,i,e,g⟩
end
end
theorem AiY(s:Af)(w:World):Ah 183 #[.string s] w fun a V=>a=.returned (Aa (Jt s:Nat))/\V=w:=by
 unfold Jt BE;go_enter func183,ntmps183;go_wp2;all_goals go_ret
 all_goals refine⟨?_,rfl⟩
 all_goals go_light
 all_goals simp_all
theorem AfK(s:Af)(w:World):Ah 201 #[.string s] w fun a V=>a=.returned (Aa (Ij s:Nat))/\V=w:=by
 unfold Ij BE;go_enter func201,ntmps201;go_wp2;all_goals go_ret
 all_goals refine⟨?_,rfl⟩
 all_goals go_light
 all_goals simp_all
section
variable{base O Y Z I:Nat}{X:Option Nat}{w V:World}{M:Ck}{v K:Value}
theorem EI(h:MK base O Y Z I X w M v)(a:List Int)(b:TypeId)(U:M.words.length+a.length<=1000000):
 Ah 101 #[Al O,Ar w.heap.size a.length a.length] (w.alloc (.cells (a.map (Value.int .i64)).toArray b))
  fun c V=>c=.returned (Aa M.words.length)/\ ∃K,MK base O Y Z I X V (M.more a) K/\Mv O v K w V:=
 MY h AP (Nh w a b) U
def EX(base O Y Z I:Nat)(X:Option Nat)(c:CE)(a:Ex):Prop:=
 ∀(Q:AW)(w:World)(d:Value)(M:Ck)(v:Value),MK base O Y Z I X w M v->M.E=c->Ca Q w d a->(∀b,Q b->b<base/\b≠O)->BX a->M.words.length+(Ak c M.words.length a).length<=1000000->
  Ah 155 #[Al O,d] w (BZ base O Y Z I X (M.more (Au (Ak c M.words.length a))) v w)
theorem Mv.keepQ{Q:AW}(h:MK base O Y Z I X w M v)(f:Mv O v K w V)(d: ∀b,Q b->b<base/\b≠O):BR Q w V:=
 f.1.keepQ fun b e a=>by
  obtain⟨g,c⟩:=d b e;rcases a with a|a
  ·exact c a
  ·have:=(h.row b a).1;omega
theorem ER(M:Ck)(a:List Int):(M.more a).E=M.E:=rfl
theorem Bo(M:Ck)(a:List Int):(M.more a).words.length=M.words.length+a.length:=by unfold Ck.more;simp
theorem CM(M:Ck)(a b:List Int):(M.more a).more b=M.more (a++b):=by unfold Ck.more;simp
def Ck.told(M:Ck)(j a:Nat):Ck:={M with words:=M.words.set j a}
theorem Md(M:Ck)(j a:Nat):(M.told j a).words.length=M.words.length:=by unfold Ck.told;simp
theorem O6(M:Ck)(x:Int)(b:List Int)(a:Nat):(M.more ([x,-1]++b)).told (M.words.length+1) a=M.more ([x,(a:Int)]++b):=by
 unfold Ck.told Ck.more;simp only
 congr 1
 rw[Pj _ _ (by omega),Jy];rfl
def I4(a:CE)(p:Nat)(b:Ex):List Nat:=
 [23,p+2+(Ak a (p+2) b).length+3]++Ak a (p+2) b++[21]++[22,p+2+(Ak a (p+2) b).length+5]++[2,0]
def Jk(a:CE)(p:Nat)(b:Ex):List Nat:=
 [23,p+6]++[2,1]++[22,p+6+(Ak a (p+6) b).length+1]++Ak a (p+6) b++[21]
theorem Aa2{e:CE}{d:Ex}(av:EX base O Y Z I X e d){Q:AW}{l:Value}(h:MK base O Y Z I X w M v)(ah:M.E=e)(D:Ca Q w l d)(K: ∀b,Q b->b<base/\b≠O)(ak:BX d)(U:M.words.length+(I4 e M.words.length d).length<=1000000):
 Ah 199 #[Al O,l] w (BZ base O Y Z I X (M.more (Au (I4 e M.words.length d))) v w):=by
 have N:(I4 e M.words.length d).length=(Ak e (M.words.length+2) d).length+7:=by unfold I4;simp
 rw[N] at U
 have r:Hid (∀a:List Int,a=Au (Ak e (M.words.length+2) d)->((((((M.more [23,-1]).more a).more [21]).more [22,-1]).told (M.words.length+1) ((((M.more [23,-1]).more a).more [21]).more [22,-1]).words.length).more [2,0]).told ((((M.more [23,-1]).more a).more [21]).words.length+1) (((((((M.more [23,-1]).more a).more [21]).more [22,-1]).told (M.words.length+1) ((((M.more [23,-1]).more a).more [21]).more [22,-1]).words.length).more [2,0]).words.length)=M.more (Au (I4 e M.words.length d))):=by
  intro a al;have ac:(((M.more [23,-1]).more a).more [21]).more [22,-1]=M.more ([23,-1]++(a++[21]++[22,-1])):=by simp[CM]
  rw[ac,O6,CM];have ad:((M.more [23,-1]).more a).more [21]=M.more ([23,-1]++(a++[21])):=by simp[CM]
  rw[ad];generalize j:(M.more ([23,-1]++(a++[21]++[22,-1]))).words.length=k;have ae:M.more ([23,(k:Int)]++(a++[21]++[22,-1])++[2,0])=(M.more ([23,(k:Int)]++(a++[21]))).more ([22,-1]++[2,0]):=by simp[CM]
  have af:(M.more ([23,-1]++(a++[21]))).words.length=(M.more ([23,(k:Int)]++(a++[21]))).words.length:=by simp[Bo]
  rw[ae,af,O6,CM];subst al
  congr 1
  unfold I4;simp only[Bo,AG,Bg,Bm,BF,E6,Mm,NR,DO,IZ,Hl] at j⊢
  congr 2
  ·show(k:Int)=_;rw[<-j];simp;omega
  ·congr 2
   simp;omega
 have o:(M.more [23,-1]).words.length=M.words.length+2:=by rw[Bo];rfl
 have L: ∀i v1,MK base O Y Z I X i (M.more [23,-1]) v1->Mv O v v1 w i->Ah 155 #[Al O,l] i (BZ base O Y Z I X ((M.more [23,-1]).more (Au (Ak e (M.words.length+2) d))) v1 i):=fun i v1 ag j=>by have:=av Q i l (M.more [23,-1]) v1 ag ah (D.keep (j.keepQ h K)) K ak (by rw[o];omega);rw[o] at this;exact this
 have R:Hid (∃a:List Int,a=Au (Ak e (M.words.length+2) d)):=⟨_,rfl⟩;have am:(Au (Ak e (M.words.length+2) d)).length<=(Ak e (M.words.length+2) d).length:=by simp
 have s:=r.out _ rfl;clear r R;generalize Au (Ak e (M.words.length+2) d)=a at*;generalize(Ak e (M.words.length+2) d).length=a3 at*;have t:Hid _:=s;clear s;have u:M.words.length+2<=1000000:=by omega
 have x:((M.more [23,-1]).more a).words.length+1<=1000000:=by rw[Bo,Bo];simp;omega
 have y:(((M.more [23,-1]).more a).more [21]).words.length+2<=1000000:=by rw[Bo,Bo,Bo];simp;omega
 have z:((((M.more [23,-1]).more a).more [21]).more [22,-1]).words.length<=1000000:=by rw[Bo,Bo,Bo,Bo];simp;omega
 have A:M.words.length+1<((((M.more [23,-1]).more a).more [21]).more [22,-1]).words.length:=by rw[Bo,Bo,Bo,Bo];simp;omega
 have n:(((((M.more [23,-1]).more a).more [21]).more [22,-1]).told (M.words.length+1) ((((M.more [23,-1]).more a).more [21]).more [22,-1]).words.length).words.length+2<=1000000:=by rw[Md,Bo,Bo,Bo,Bo];simp;omega
 have B:((((((M.more [23,-1]).more a).more [21]).more [22,-1]).told (M.words.length+1) ((((M.more [23,-1]).more a).more [21]).more [22,-1]).words.length).more [2,0]).words.length<=1000000:=by rw[Bo];exact n
 have C:(((M.more [23,-1]).more a).more [21]).words.length+1<((((((M.more [23,-1]).more a).more [21]).more [22,-1]).told (M.words.length+1) ((((M.more [23,-1]).more a).more [21]).more [22,-1]).words.length).more [2,0]).words.length:=by simp only[Bo,Md,Bg,Bm];omega
 have S:=EI h [23,-1] 3 (by simpa using u);have T:=fun W c(g:MK base O Y Z I X W ((M.more [23,-1]).more a) c)=>EI g [21] 3 (by simpa using x);have aa:=fun W c(g:MK base O Y Z I X W (((M.more [23,-1]).more a).more [21]) c)=>EI g [22,-1] 3 (by simpa using y);have p:=fun W c(g:MK base O Y Z I X W ((((M.more [23,-1]).more a).more [21]).more [22,-1]) c)=>N1 g A z;have ab:=fun W c(g:MK base O Y Z I X W (((((M.more [23,-1]).more a).more [21]).more [22,-1]).told (M.words.length+1) ((((M.more [23,-1]).more a).more [21]).more [22,-1]).words.length) c)=>EI g [2,0] 3 (by simpa using n);have m:=fun W c(g:MK base O Y Z I X W ((((((M.more [23,-1]).more a).more [21]).more [22,-1]).told (M.words.length+1) ((((M.more [23,-1]).more a).more [21]).more [22,-1]).words.length).more [2,0]) c)=>N1 g C B;have q:=t.out;clear t u x y z A n B C am o N U;change∀W c,MK base O Y Z I X W ((((M.more [23,-1]).more a).more [21]).more [22,-1]) c->Ah 184 #[Al O,Aa M.words.length] W fun f V=>f=.returned A6/\MK base O Y Z I X V (((((M.more [23,-1]).more a).more [21]).more [22,-1]).told (M.words.length+1) ((((M.more [23,-1]).more a).more [21]).more [22,-1]).words.length) c/\Mv O c c W V at p;change∀W c,MK base O Y Z I X W ((((((M.more [23,-1]).more a).more [21]).more [22,-1]).told (M.words.length+1) ((((M.more [23,-1]).more a).more [21]).more [22,-1]).words.length).more [2,0]) c->Ah 184 #[Al O,Aa (((M.more [23,-1]).more a).more [21]).words.length] W fun f V=>f=.returned A6/\MK base O Y Z I X V (((((((M.more [23,-1]).more a).more [21]).more [22,-1]).told (M.words.length+1) ((((M.more [23,-1]).more a).more [21]).more [22,-1]).words.length).more [2,0]).told ((((M.more [23,-1]).more a).more [21]).words.length+1) (((((((M.more [23,-1]).more a).more [21]).more [22,-1]).told (M.words.length+1) ((((M.more [23,-1]).more a).more [21]).more [22,-1]).words.length).more [2,0]).words.length)) c/\Mv O c c W V at m;rw[q] at m;clear q;generalize M.more (Au (I4 e M.words.length d))=a2 at*;generalize((((((M.more [23,-1]).more a).more [21]).more [22,-1]).told (M.words.length+1) ((((M.more [23,-1]).more a).more [21]).more [22,-1]).words.length).more [2,0])=a1 at*;generalize(((((M.more [23,-1]).more a).more [21]).more [22,-1]).told (M.words.length+1) ((((M.more [23,-1]).more a).more [21]).more [22,-1]).words.length)=a0 at*;generalize((((M.more [23,-1]).more a).more [21]).more [22,-1])=az at*;generalize(((M.more [23,-1]).more a).more [21])=ay at*;generalize((M.more [23,-1]).more a)=ax at*;generalize(M.more [23,-1])=aw at*;unfold BZ at L;go_enter func199,ntmps199;go_wp2_with(first|(go_at_call 184;have _q:=J;refine(m _ _ J).mono ?_;rintro f bb⟨rfl,aj,au⟩)|(go_at_call 101;have _q:=H;refine(ab _ _ H).mono ?_;rintro f ba⟨rfl,v6,J,ar⟩)|(go_at_call 184;have _q:=G;refine(p _ _ G).mono ?_;rintro f a9⟨rfl,H,aq⟩)|(go_at_call 101;have _q:=F;refine(aa _ _ F).mono ?_;rintro f a8⟨rfl,v4,G,ap⟩)|(go_at_call 101;have _q:=E;refine(T _ _ E).mono ?_;rintro f a7⟨rfl,a5,F,ao⟩)|(go_at_call 155;refine(L _ _ ai P).mono ?_;rintro f a6⟨rfl,a4,E,an⟩)|(go_at_call 101;refine S.mono ?_;rintro f i⟨rfl,v1,ai,P⟩));go_end0;exact⟨rfl,_,aj,P.trans (an.trans (ao.trans (ap.trans (aq.trans (ar.trans au)))))⟩
theorem AfM(M:Ck)(a:List Int){E:CE}{r:Ex}(h:a=Au (Ak E (M.words.length+6) r)):
 (((((((M.more [23,-1]).more [2,1]).more [22,-1]).told (M.words.length+1) (((M.more [23,-1]).more [2,1]).more [22,-1]).words.length).more a).more [21]).told (((M.more [23,-1]).more [2,1]).words.length+1)
   (((((((M.more [23,-1]).more [2,1]).more [22,-1]).told (M.words.length+1) (((M.more [23,-1]).more [2,1]).more [22,-1]).words.length).more a).more [21]).words.length))=M.more (Au (Jk E M.words.length r)):=by
 have d:((M.more [23,-1]).more [2,1]).more [22,-1]=M.more ([23,-1]++([2,1]++[22,-1])):=by simp[CM]
 rw[d,O6];have e:(M.more [23,-1]).more [2,1]=M.more ([23,-1]++[2,1]):=by simp[CM]
 rw[e];generalize c:(M.more ([23,-1]++([2,1]++[22,-1]))).words.length=b;have f:((M.more ([23,(b:Int)]++([2,1]++[22,-1]))).more a).more [21]=(M.more ([23,(b:Int)]++[2,1])).more ([22,-1]++(a++[21])):=by simp[CM]
 have g:(M.more ([23,-1]++[2,1])).words.length=(M.more ([23,(b:Int)]++[2,1])).words.length:=by simp[Bo]
 rw[f,g,O6,CM];subst h
 congr 1
 unfold Jk;simp only[Bo,AG,Bg,Bm,BF,E6,Mm,NR,IZ,Hl] at c⊢
 congr 2
 ·show(b:Int)=_;rw[<-c];rfl
 ·congr 4
  simp;omega
theorem AfL{d:CE}{c:Ex}(aj:EX base O Y Z I X d c){Q:AW}{j:Value}(h:MK base O Y Z I X w M v)(T:M.E=d)(D:Ca Q w j c)(B: ∀b,Q b->b<base/\b≠O)(ad:BX c)(U:M.words.length+(Jk d M.words.length c).length<=1000000):
 Ah 200 #[Al O,j] w (BZ base O Y Z I X (M.more (Au (Jk d M.words.length c))) v w):=by
 have E:(Jk d M.words.length c).length=(Ak d (M.words.length+6) c).length+7:=by unfold Jk;simp
 rw[E] at U;have m:=AfM M _ (E:=d) (r:=c) rfl;have k:((((M.more [23,-1]).more [2,1]).more [22,-1]).told (M.words.length+1) (((M.more [23,-1]).more [2,1]).more [22,-1]).words.length).words.length=M.words.length+6:=by simp[Bo,Md]
 have C: ∀i v1,MK base O Y Z I X i ((((M.more [23,-1]).more [2,1]).more [22,-1]).told (M.words.length+1) (((M.more [23,-1]).more [2,1]).more [22,-1]).words.length) v1->Mv O v v1 w i->Ah 155 #[Al O,j] i (BZ base O Y Z I X (((((M.more [23,-1]).more [2,1]).more [22,-1]).told (M.words.length+1) (((M.more [23,-1]).more [2,1]).more [22,-1]).words.length).more (Au (Ak d (M.words.length+6) c))) v1 i):=fun i v1 S af=>by have:=aj Q i j _ v1 S T (D.keep (af.keepQ h B)) B ad (by rw[k];omega);rw[k] at this;exact this
 have ae:(Au (Ak d (M.words.length+6) c)).length<=(Ak d (M.words.length+6) c).length:=by simp
 generalize Au (Ak d (M.words.length+6) c)=f at*;generalize(Ak d (M.words.length+6) c).length=ar at*;have n:M.words.length+2<=1000000:=by omega
 have o:(M.more [23,-1]).words.length+2<=1000000:=by simp only[Bo,Bg,Bm];omega
 have p:((M.more [23,-1]).more [2,1]).words.length+2<=1000000:=by simp only[Bo,Bg,Bm];omega
 have q:(((M.more [23,-1]).more [2,1]).more [22,-1]).words.length<=1000000:=by simp only[Bo,Bg,Bm];omega
 have r:M.words.length+1<(((M.more [23,-1]).more [2,1]).more [22,-1]).words.length:=by simp only[Bo,Bg,Bm];omega
 have s:(((((M.more [23,-1]).more [2,1]).more [22,-1]).told (M.words.length+1) (((M.more [23,-1]).more [2,1]).more [22,-1]).words.length).more f).words.length+1<=1000000:=by simp only[Bo,Md,Bg,Bm];omega
 have t:((((((M.more [23,-1]).more [2,1]).more [22,-1]).told (M.words.length+1) (((M.more [23,-1]).more [2,1]).more [22,-1]).words.length).more f).more [21]).words.length<=1000000:=by simp only[Bo,Md,Bg,Bm];omega
 have u:((M.more [23,-1]).more [2,1]).words.length+1<((((((M.more [23,-1]).more [2,1]).more [22,-1]).told (M.words.length+1) (((M.more [23,-1]).more [2,1]).more [22,-1]).words.length).more f).more [21]).words.length:=by simp only[Bo,Md,Bg,Bm];omega
 have L:=EI h [23,-1] 3 (by simpa using n);have N:=fun W a(g:MK base O Y Z I X W (M.more [23,-1]) a)=>EI g [2,1] 3 (by simpa using o);have P:=fun W a(g:MK base O Y Z I X W ((M.more [23,-1]).more [2,1]) a)=>EI g [22,-1] 3 (by simpa using p);have K: ∀W a,MK base O Y Z I X W (((M.more [23,-1]).more [2,1]).more [22,-1]) a->Ah 184 #[Al O,Aa M.words.length] W fun e V=>e=.returned A6/\MK base O Y Z I X V ((((M.more [23,-1]).more [2,1]).more [22,-1]).told (M.words.length+1) (((M.more [23,-1]).more [2,1]).more [22,-1]).words.length) a/\Mv O a a W V:=fun W a g=>N1 g r q;have R:=fun W a(g:MK base O Y Z I X W (((((M.more [23,-1]).more [2,1]).more [22,-1]).told (M.words.length+1) (((M.more [23,-1]).more [2,1]).more [22,-1]).words.length).more f) a)=>EI g [21] 3 (by simpa using s)
 have l: ∀W a,MK base O Y Z I X W ((((((M.more [23,-1]).more [2,1]).more [22,-1]).told (M.words.length+1) (((M.more [23,-1]).more [2,1]).more [22,-1]).words.length).more f).more [21]) a->Ah 184 #[Al O,Aa ((M.more [23,-1]).more [2,1]).words.length] W fun e V=>e=.returned A6/\MK base O Y Z I X V (((((((M.more [23,-1]).more [2,1]).more [22,-1]).told (M.words.length+1) (((M.more [23,-1]).more [2,1]).more [22,-1]).words.length).more f).more [21]).told (((M.more [23,-1]).more [2,1]).words.length+1)
  (((((((M.more [23,-1]).more [2,1]).more [22,-1]).told (M.words.length+1) (((M.more [23,-1]).more [2,1]).more [22,-1]).words.length).more f).more [21]).words.length)) a/\Mv O a a W V:=fun W a g=>N1 g u t
 rw[m] at l;clear m n o p q r s t u ae k E U;generalize M.more (Au (Jk d M.words.length c))=aq at*;generalize((((((M.more [23,-1]).more [2,1]).more [22,-1]).told (M.words.length+1) (((M.more [23,-1]).more [2,1]).more [22,-1]).words.length).more f).more [21])=ap at*;generalize(((((M.more [23,-1]).more [2,1]).more [22,-1]).told (M.words.length+1) (((M.more [23,-1]).more [2,1]).more [22,-1]).words.length).more f)=ao at*;generalize((((M.more [23,-1]).more [2,1]).more [22,-1]).told (M.words.length+1) (((M.more [23,-1]).more [2,1]).more [22,-1]).words.length)=an at*;generalize(((M.more [23,-1]).more [2,1]).more [22,-1])=am at*;generalize((M.more [23,-1]).more [2,1])=al at*;generalize(M.more [23,-1])=ak at*;unfold BZ at C;go_enter func200,ntmps200;go_wp2_with(first|(go_at_call 184;have _q:=A;refine(l _ _ A).mono ?_;rintro e a2⟨rfl,ac,ai⟩)|(go_at_call 101;have _q:=z;refine(R _ _ z).mono ?_;rintro e a1⟨rfl,v6,A,ah⟩)|(go_at_call 155;refine(C _ _ ab (F.trans (G.trans (H.trans J)))).mono ?_;rintro e a0⟨rfl,aw,z,ag⟩)|(go_at_call 184;refine(K _ _ aa).mono ?_;rintro e az⟨rfl,ab,J⟩)|(go_at_call 101;have _q:=y;refine(P _ _ y).mono ?_;rintro e ay⟨rfl,av,aa,H⟩)|(go_at_call 101;have _q:=x;refine(N _ _ x).mono ?_;rintro e ax⟨rfl,au,y,G⟩)|(go_at_call 101;refine L.mono ?_;rintro e i⟨rfl,v1,x,F⟩));go_end0;exact⟨rfl,_,ac,F.trans (G.trans (H.trans (J.trans (ag.trans (ah.trans ai)))))⟩
theorem Xc(h:MK base O Y Z I X w M v)(a:List Int)(b:TypeId)(U:M.words.length+a.length<=1000000):
 Ah 101 #[Al O,Ar w.heap.size a.length a.length] (w.alloc (.cells (a.map (Value.int .i64)).toArray b)).drew
  fun c V=>c=.returned (Aa M.words.length)/\ ∃K,MK base O Y Z I X V (M.more a) K/\Mv O v K w V:=
 MY h AP.drew (Nh w a b) U
theorem Mv.new{a:Array Value}{c:TypeId}(h:MK base O Y Z I X w M v)(d:Mv O v K (w.alloc (.cells a c)) V)(o:Nat):V.cell? (Ac w.heap.size o)=a[o]? :=by
 have e:=h.lt
 rw[d.1.cell (k:=w.heap.size) (by simp) (by
  rintro(b|b)
  ·omega
  ·have:=(h.row _ b).2.1;omega)]
 exact Cl w a c o
end
