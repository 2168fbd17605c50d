import Derived.Test.YtmoeoppbmhfbpaaGreatDoorDProgM
import Derived.ProofKit
import Derived.OpenShut
import Derived.Below
import Derived.Carry
import Derived.Deep.Slices
set_option maxRecDepth 100000
set_option linter.all false
namespace Go.Proofs.YtmoeoppbmhfbpaaGreatDoorD
open Go.Abs
structure jY where
 kind:Int
 n:Int
 m:Int
 s:Tx
 e:Tx
 f:Tx
def EO (o:jY)(c:List AV):Prop:=c=[sc (.int .i64 o.kind),sc (.int .i64 o.n),sc (.int .i64 o.m),str o.s,str o.e,str o.f]
theorem yD (o:jY)(c:List AV)(h:EO o c):c.length=6:=by rw[h];rfl
theorem Ac2 {l:List jY}{cs:List AV}{i:Nat}{o:jY}(h:EL EO l cs)(hi:l[i]?=some o):∃r,cs.drop (i*6)=sc (.int .i64 o.kind)::sc (.int .i64 o.n)::sc (.int .i64 o.m)::str o.s::str o.e::str o.f::r:=by
 obtain⟨c,r,rfl,e⟩:=EL.get yD h hi;exact⟨r,e⟩
theorem Q0 (s:Tx)(A:St):ACalls Tryz.prog 82 [str s] A fun r A'=>r=two (As s)/\Keep A A':=by
 have hp:=Hm s;refine Wl s (fun hl h0=>?_) ?_ A
 ·cases h:Bv 16 s with
  |bad e=>rw[h]at hp;exact absurd (by rw[hp];exact Afl _) h0
  |got l r=>exact (D8 Agm h).1
 ·rw[hp];cases h:Bv 16 s with
  |bad e=>exact⟨Int.le_trans (by decide) (Afl (s.length-e.length)),Int.ofNat_le.2 (Nat.sub_le _ _)⟩
  |got l r=>exact⟨show (-1:Int)<= -1 by decide,show (-1:Int)<=(s.length:Int)by omega⟩
theorem vZ (c:Int)(A:St):ACalls Tryz.prog 54 [sc (.int .i64 c)] A fun x A'=>x=sc (.int .i64 c)/\A'=A:=by
 refine Z9 4 [.tmp 2] Tryz.func54 ?_
 refine zz ?_
 first|exact⟨_,rfl,rfl,rfl⟩|exact⟨_,rfl,rfl⟩|exact⟨_,rfl⟩
open Go.RowKit (Below)
def st0:St:={obj:=fun _=>[],nobj:=0,top:=fun _=>0,ntop:=0,ver:=fun _=>0}
def gh0 (W:World):Gh:={blk:=fun _=>0,cur:=fun _=>0,cap:=fun _=>0,siz:=fun _=>0,per:=fun b _=>b<W.heap.size,base:=W.heap.size,w0:=W}
theorem Adb (W:World)(hy:Abs.Hyp W.heap.size W):Abs.Inv (gh0 W) st0 W:=
 ⟨fun o h=>absurd h (Nat.not_lt_zero _),fun o o' h=>absurd h (Nat.not_lt_zero _),fun k h=>absurd h (Nat.not_lt_zero _),fun k k' h=>absurd h (Nat.not_lt_zero _),fun o k h=>absurd h (Nat.not_lt_zero _),
  fun b off h=>h,fun b off h=>h,Below.refl _ _,Adc _,hy⟩
theorem lX {w:World}{per:Nat->Nat->Prop}{R:Value->AV->Prop}{b o:Nat}{xs ys:List AV}(h:Lie w per R b o xs)(g:Lie w per R b (o+xs.length) ys):Lie w per R b o (xs++ys):=fun i x hx=>by
 rw[List.getElem?_append]at hx;split at hx
 ·exact h i x hx
 ·rename_i hi;have:=g (i-xs.length) x hx;rwa[show o+xs.length+(i-xs.length)=o+i by omega]at this
def opC (o:jY):List AV:=[sc (.int .i64 o.kind),sc (.int .i64 o.n),sc (.int .i64 o.m),str o.s,str o.e,str o.f]
def opV (o:jY):List Value:=[.int .i64 o.kind,.int .i64 o.n,.int .i64 o.m,.string (bs o.s),.string (bs o.e),.string (bs o.f)]
def opAt (w:World)(b off:Nat)(o:jY):Prop:=∀r,r<6->w.cell? ⟨b,off+r,none⟩=(opV o)[r]?
theorem Abq {w:World}{per:Nat->Nat->Prop}{G:Gh}{A:St}{b off:Nat}{o:jY}(hp:∀k,per b k)(h:opAt w b off o):Lie w per (VR G A w) b off (opC o):=fun i x hx=>by
 refine⟨hp _,?_⟩
 match i,hx with
 |0,hx=>simp[opC]at hx;subst hx;exact⟨_,h 0 (by decide),VR.sc _⟩
 |1,hx=>simp[opC]at hx;subst hx;exact⟨_,h 1 (by decide),VR.sc _⟩
 |2,hx=>simp[opC]at hx;subst hx;exact⟨_,h 2 (by decide),VR.sc _⟩
 |3,hx=>simp[opC]at hx;subst hx;exact⟨_,h 3 (by decide),VR.sc _⟩
 |4,hx=>simp[opC]at hx;subst hx;exact⟨_,h 4 (by decide),VR.sc _⟩
 |5,hx=>simp[opC]at hx;subst hx;exact⟨_,h 5 (by decide),VR.sc _⟩
 |i+6,hx=>simp[opC]at hx
theorem pL {w:World}{per:Nat->Nat->Prop}{G:Gh}{A:St}{b:Nat}(hp:∀k,per b k):∀(l:List jY) (off:Nat),(∀i o,l[i]?=some o->opAt w b (off+i*6) o)->Lie w per (VR G A w) b off (l.flatMap opC)
 |[],off,h=>fun i x hx=>by simp at hx
 |o::l,off,h=>by
  rw[Ae0];refine lX (Abq hp (by simpa using h 0 o rfl)) (pL hp l _ fun i o' hi=>?_);have:=h (i+1) o' (by simpa using hi);rwa[show off+(i+1)*6=off+(opC o).length+i*6 by simp[opC];omega]at this
theorem wU:∀l:List jY,EL EO l (l.flatMap opC)
 |[]=>rfl
 |o::l=>⟨opC o,l.flatMap opC,rfl,wU l,by rw[Ae0]⟩
theorem pK {p:Nat->jY->Prop}:∀(n:Nat),(∀i,i<n->∃o,p i o)->∃l:List jY,l.length=n/\∀i o,l[i]?=some o->p i o
 |0,_=>⟨[],rfl,fun i o h=>by simp at h⟩
 |n+1,h=>by
  obtain⟨l,hl,hp⟩:=pK n fun i hi=>h i Agm;obtain⟨o,ho⟩:=h n Agm;refine⟨l++[o],by simp[hl],fun i o' hi=>?_⟩;rw[List.getElem?_append]at hi;split at hi
  ·exact hp i o' hi
  ·rename_i aa;have:i=n:=by
    by_cases e:i-l.length=0
    ·omega
    ·rw[Ady (by simp;omega)]at hi;cases hi
   subst this;rw[show i-l.length=0 by omega]at hi;simp at hi;subst hi;exact ho
theorem pU:Tryz.prog.cellsOf 43=6:=Agp
theorem cells3:Tryz.prog.cellsOf 3=1:=Agp
theorem Ab1:Tryz.prog.cellsOf 9=1:=Agp
theorem zO {H:Type}{enc:TypeId×Value->H}{w:World}{base:Nat}{spare:Nat->Bool}{held:Bool}{fuel:Nat}{cs:List Value}{x:DataW H×List MemPlace}(h:DataW.trod enc Tryz.prog w base spare held fuel 43 cs=some x):∃o:jY,cs=opV o/\o.n<=9223372036854775807/\o.e.length<=9223372036854775807:=by
 obtain⟨xs,n,-,-,hl,aa,hf⟩:=DataW.trod_struct Tryz.underlying43 h;rw[pU]at hl
 match xs,aa with
 |[y0,y1,y2,y3,y4,y5],_=>
  have f0:DataW.trod enc Tryz.prog w base spare held n 3 ((cs.drop 0).take (Tryz.prog.cellsOf 3))=some y0:=hf 0 _ rfl;have f1:DataW.trod enc Tryz.prog w base spare held n 3 ((cs.drop 1).take (Tryz.prog.cellsOf 3))=some y1:=hf 1 _ rfl;have f2:DataW.trod enc Tryz.prog w base spare held n 3 ((cs.drop 2).take (Tryz.prog.cellsOf 3))=some y2:=hf 2 _ rfl;have f3:DataW.trod enc Tryz.prog w base spare held n 9 ((cs.drop 3).take (Tryz.prog.cellsOf 9))=some y3:=hf 3 _ rfl;have f4:DataW.trod enc Tryz.prog w base spare held n 9 ((cs.drop 4).take (Tryz.prog.cellsOf 9))=some y4:=hf 4 _ rfl;have f5:DataW.trod enc Tryz.prog w base spare held n 9 ((cs.drop 5).take (Tryz.prog.cellsOf 9))=some y5:=hf 5 _ rfl;rw[cells3]at f0 f1 f2;rw[Ab1]at f3 f4 f5;obtain⟨k,e0,-,-⟩:=DataW.trod_int Tryz.underlying3 f0;obtain⟨a,e1,-,hw⟩:=DataW.trod_int Tryz.underlying3 f1;have ab:IntKind.i64.max=9223372036854775807:=by decide
  simp only[Lit.wf,ab,Age,Adr]at hw;obtain⟨b,e2,-,-⟩:=DataW.trod_int Tryz.underlying3 f2;obtain⟨s,e3,-,-⟩:=DataW.trod_string Tryz.underlying9 f3;obtain⟨t,e4,-,ht⟩:=DataW.trod_string Tryz.underlying9 f4;obtain⟨u,e5,-,-⟩:=DataW.trod_string Tryz.underlying9 f5
  match cs,hl with
  |[c0,c1,c2,c3,c4,c5],_=>
   simp at e0 e1 e2 e3 e4 e5;subst e0 e1 e2 e3 e4 e5;exact⟨⟨k,a,b,s.data.toList,t.data.toList,u.data.toList⟩,by simp only[opV,<-Ac0],hw.2,by unfold maxLen at ht;simpa using ht⟩
theorem open_script2 {H:Type}{enc:TypeId×Value->H}{W:World}{spare:Nat->Bool}{held:Bool}{fuel:Nat}{a:Option Addr}{len cap:Nat}{x:DataW H×List MemPlace}(h:DataW.trod enc Tryz.prog W 0 spare held fuel 22 [.slice a len cap]=some x):
  ∃(l:List jY) (cs:List AV),EL EO l cs/\l.length<=9223372036854775807/\(∀o∈l,o.n<=9223372036854775807/\o.e.length<=9223372036854775807)/\VR (gh0 W) st0 W (.slice a len cap) (sl 0 l.length cs):=by
 rcases Deep.open_slice Tryz.underlying22 h with⟨aa,-⟩|⟨a',len',cap',m,n,D,Pl,aa,-,hl,hm,aj,-,ae⟩
 ·simp at aa;obtain⟨rfl,rfl,rfl⟩:=aa;exact⟨[],[],rfl,by simp,by simp,VR.fold ⟨none,0,rfl,⟨Adc _,fun h=>Agm⟩,fun h=>absurd rfl h,fun k hk=>Agm⟩⟩
 ·simp at aa;obtain⟨rfl,rfl,rfl⟩:=aa;have am:len<=m:=by rw[aj];split<;>omega
  rw[pU]at ae;have ab:∀i,i<len->∃o:jY,(∀r,r<6->W.cell? ((a'.add (i*6)).add r)=(opV o)[r]?)/\o.n<=9223372036854775807/\o.e.length<=9223372036854775807:=by
   intro i hi;obtain⟨cs',h1,h2⟩:=ae i Agm;obtain⟨o,rfl,hn⟩:=zO h2;obtain⟨-,-,h3⟩:=World.cells?_some h1;exact⟨o,h3,hn⟩
  obtain⟨l,ad,hp2⟩:=pK len ab;have hp:=fun i o hi=>(hp2 i o hi).1;refine⟨l,l.flatMap opC,wU l,by rw[ad];unfold maxLen at hm;omega,(fun o ho=>by obtain⟨i,hi⟩:=Afc ho;exact (hp2 i o hi).2),VR.fold ⟨some a',cap,by rw[ad],⟨Agm,fun h=>Agm⟩,fun ai=>?_,fun k hk=>Agm⟩⟩;have ak:0<l.length:=by
   cases l with
   |nil=>exact absurd rfl ai
   |cons o r=>simp
  obtain⟨b,off,spot⟩:=a';have af:=hp 0 l[0] (Adn ak) 0 (by decide);have ah:spot=none:=by
   have:W.cell? ⟨b,off,spot⟩=some (.int .i64 l[0].kind):=by simpa[Addr.add,opV]using af
   exact World.cell?_spot this
  subst ah;have ac:b<W.heap.size:=by
   have:W.cell? ⟨b,off,none⟩=some (.int .i64 l[0].kind):=by simpa[Addr.add,opV]using af
   unfold World.cell? at this;rcases Adg b W.heap.size with h|h
   ·exact h
   ·simp[Adh h]at this
  refine⟨b,off,rfl,pL (fun _=>ac) l off fun i o hi r hr=>?_⟩;have:=hp i o hi r hr;rw[<-this];congr 1;unfold Addr.add;split<;>split<;>simp_all<;>omega
end Go.Proofs.YtmoeoppbmhfbpaaGreatDoorD
