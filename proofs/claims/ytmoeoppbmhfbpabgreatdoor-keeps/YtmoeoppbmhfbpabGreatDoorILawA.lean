import Derived.Test.YtmoeoppbmhfbpabGreatDoorIProgM
import Derived.ProofKit
import Derived.OpenShut
import Derived.Below
import Derived.Carry
import Derived.Deep.Slices
set_option maxRecDepth 100000
set_option linter.all false
open List renaming length->Z
namespace Go.Proofs.YtmoeoppbmhfbpabGreatDoorI
open Go.Abs
structure pE where
 kind:Int
 n:Int
 m:Int
 s:Tx
 e:Tx
 f:Tx
def EO (o:pE)(c:List AV):Prop:=c=[ic o.kind,ic o.n,ic o.m,str o.s,str o.e,str o.f]
theorem UZ (o:pE)(c)(h:EO o c):Z c=6:=by rw[h];rfl
theorem XM {l:List pE}{cs i}{o:pE}(h:EL EO l cs)(hi:l[i]?=some o):∃r,cs.drop (i*6)=ic o.kind::ic o.n::ic o.m::str o.s::str o.e::str o.f::r:=by
 obtain⟨c,r,rfl,e⟩:=EL.get UZ h hi;exact⟨r,e⟩
theorem Tv (s A):AF Tryz.prog 60 [str s] A fun r A'=>r=two (Au s)/\AE A A':=by
 have hp:=F1 s;refine Zv s (fun hl h0=>?_) ?_ A
 ·cases h:Bv 16 s with
  |bad e=>rw[h]at hp;exact absurd (by rw[hp];exact KG _) h0
  |got l r=>exact (Dd AA h).1
 ·rw[hp];cases h:Bv 16 s with
  |bad e=>exact⟨Int.le_trans (by decide) (KG (Z s-Z e)),Int.ofNat_le.2 (Nat.sub_le _ _)⟩
  |got l r=>exact⟨show (-1:Int)<= -1 by decide,show (-1:Int)<=(Z s:Int)by omega⟩
theorem mQ (c A):AF Tryz.prog 35 [ic c] A fun x A'=>x=ic c/\A'=A:=by
 refine Z9 4 [.tmp 2] Tryz.func35 ?_
 refine zz ?_
 first|exact⟨_,rfl,rfl,rfl⟩|exact⟨_,rfl,rfl⟩|exact⟨_,rfl⟩
open Go.RowKit (Below)
def st0:St:={C:=fun _=>[],B:=0,top:=fun _=>0,D:=0,ver:=fun _=>0}
def UY (W:World):Gh:={blk:=fun _=>0,cur:=fun _=>0,cap:=fun _=>0,siz:=fun _=>0,per:=fun b _=>b<W.heap.size,base:=W.heap.size,w0:=W}
theorem pu (W)(hy:Abs.Hyp W.heap.size W):Abs.Inv (UY W) st0 W:=
 ⟨fun o h=>absurd h (MG _),fun o o' h=>absurd h (MG _),fun k h=>absurd h (MG _),fun k k' h=>absurd h (MG _),fun o k h=>absurd h (MG _),
  fun b off h=>h,fun b off h=>h,Below.refl _ _,AR _,hy⟩
theorem rS {w per R b o xs ys}(h:FL w per R b o xs)(g:FL w per R b (o+Z xs) ys):FL w per R b o (xs++ys):=fun i x hx=>by
 rw[List.getElem?_append]at hx;split at hx
 ·exact h i x hx
 ·rename_i hi;have:=g (i-Z xs) x hx;rwa[show o+Z xs+(i-Z xs)=o+i by omega]at this
def opC (o:pE):List AV:=[ic o.kind,ic o.n,ic o.m,str o.s,str o.e,str o.f]
def NL (o:pE):List Value:=[.int .i64 o.kind,.int .i64 o.n,.int .i64 o.m,.string (bs o.s),.string (bs o.e),.string (bs o.f)]
def opAt (w:World)(b off:Nat)(o:pE):Prop:=∀r,r<6->w.cell? ⟨b,off+r,none⟩=(NL o)[r]?
theorem lg {w per G A b off}{o:pE}(hp:∀k,per b k)(h:opAt w b off o):FL w per (VR G A w) b off (opC o):=fun i x hx=>by
 refine⟨hp _,?_⟩
 match i,hx with
 |0,hx=>simp[opC]at hx;subst hx;exact⟨_,h 0 (by decide),VR.sc _⟩
 |1,hx=>simp[opC]at hx;subst hx;exact⟨_,h 1 (by decide),VR.sc _⟩
 |2,hx=>simp[opC]at hx;subst hx;exact⟨_,h 2 (by decide),VR.sc _⟩
 |3,hx=>simp[opC]at hx;subst hx;exact⟨_,h 3 (by decide),VR.sc _⟩
 |4,hx=>simp[opC]at hx;subst hx;exact⟨_,h 4 (by decide),VR.sc _⟩
 |5,hx=>simp[opC]at hx;subst hx;exact⟨_,h 5 (by decide),VR.sc _⟩
 |i+6,hx=>simp[opC]at hx
theorem wC {w per G A b}(hp:∀k,per b k):∀(l:List pE) (off:Nat),(∀i o,l[i]?=some o->opAt w b (off+i*6) o)->FL w per (VR G A w) b off (l.flatMap opC)
 |[],off,h=>fun i x hx=>by simp at hx
 |o::l,off,h=>by
  rw[DK];refine rS (lg hp (by simpa using h 0 o rfl)) (wC hp l _ fun i o' hi=>?_);have:=h (i+1) o' (by simpa using hi);rwa[show off+(i+1)*6=off+Z (opC o)+i*6 by simp[opC];omega]at this
theorem UC:∀l:List pE,EL EO l (l.flatMap opC)
 |[]=>rfl
 |o::l=>⟨opC o,l.flatMap opC,rfl,UC l,by rw[DK]⟩
theorem wB {p:Nat->pE->Prop}:∀(n:Nat),(∀i,i<n->∃o,p i o)->∃l:List pE,Z l=n/\∀i o,l[i]?=some o->p i o
 |0,_=>⟨[],rfl,fun i o h=>by simp at h⟩
 |n+1,h=>by
  obtain⟨l,hl,hp⟩:=wB n fun i hi=>h i AA;obtain⟨o,ho⟩:=h n AA;refine⟨l++[o],by simp[hl],fun i o' hi=>?_⟩;rw[List.getElem?_append]at hi;split at hi
  ·exact hp i o' hi
  ·rename_i aa;have:i=n:=by
    by_cases e:i-Z l=0
    ·omega
    ·rw[FK (by simp;omega)]at hi;cases hi
   subst this;rw[show i-Z l=0 by omega]at hi;simp at hi;subst hi;exact ho
theorem wP:Tryz.prog.cellsOf 26=6:=AH
theorem cells3:Tryz.prog.cellsOf 3=1:=AH
theorem ZV:Tryz.prog.cellsOf 9=1:=AH
theorem me {H:Type}{enc:TypeId×Value->H}{w base spare held fuel cs}{x:DataW H×List MemPlace}(h:DataW.trod enc Tryz.prog w base spare held fuel 26 cs=some x):∃o:pE,cs=NL o/\o.n<=9223372036854775807/\Z o.e<=9223372036854775807:=by
 obtain⟨xs,n,-,-,hl,hlen,hf⟩:=DataW.trod_struct Tryz.underlying26 h;rw[wP]at hl
 match xs,hlen with
 |[y0,y1,y2,y3,y4,y5],_=>
  have f0:DataW.trod enc Tryz.prog w base spare held n 3 ((cs.drop 0).take (Tryz.prog.cellsOf 3))=some y0:=hf 0 _ rfl;have f1:DataW.trod enc Tryz.prog w base spare held n 3 ((cs.drop 1).take (Tryz.prog.cellsOf 3))=some y1:=hf 1 _ rfl;have f2:DataW.trod enc Tryz.prog w base spare held n 3 ((cs.drop 2).take (Tryz.prog.cellsOf 3))=some y2:=hf 2 _ rfl;have f3:DataW.trod enc Tryz.prog w base spare held n 9 ((cs.drop 3).take (Tryz.prog.cellsOf 9))=some y3:=hf 3 _ rfl;have f4:DataW.trod enc Tryz.prog w base spare held n 9 ((cs.drop 4).take (Tryz.prog.cellsOf 9))=some y4:=hf 4 _ rfl;have f5:DataW.trod enc Tryz.prog w base spare held n 9 ((cs.drop 5).take (Tryz.prog.cellsOf 9))=some y5:=hf 5 _ rfl;rw[cells3]at f0 f1 f2;rw[ZV]at f3 f4 f5;obtain⟨k,e0,-,-⟩:=DataW.trod_int Tryz.underlying3 f0;obtain⟨a,e1,-,hw⟩:=DataW.trod_int Tryz.underlying3 f1;have aa:IntKind.i64.max=9223372036854775807:=by decide
  simp only[Lit.wf,aa,DF,BX]at hw;obtain⟨b,e2,-,-⟩:=DataW.trod_int Tryz.underlying3 f2;obtain⟨s,e3,-,-⟩:=DataW.trod_string Tryz.underlying9 f3;obtain⟨t,e4,-,ht⟩:=DataW.trod_string Tryz.underlying9 f4;obtain⟨u,e5,-,-⟩:=DataW.trod_string Tryz.underlying9 f5
  match cs,hl with
  |[c0,c1,c2,c3,c4,c5],_=>
   simp at e0 e1 e2 e3 e4 e5;subst e0 e1 e2 e3 e4 e5;exact⟨⟨k,a,b,s.data.toList,t.data.toList,u.data.toList⟩,by simp only[NL,<-ir],hw.2,by unfold maxLen at ht;simpa using ht⟩
theorem open_script2 {H:Type}{enc:TypeId×Value->H}{W spare held fuel a len cap}{x:DataW H×List MemPlace}(h:DataW.trod enc Tryz.prog W 0 spare held fuel 22 [.slice a len cap]=some x):
  ∃(l:List pE) (cs:List AV),EL EO l cs/\Z l<=9223372036854775807/\(∀o∈l,o.n<=9223372036854775807/\Z o.e<=9223372036854775807)/\VR (UY W) st0 W (.slice a len cap) (sl 0 (Z l) cs):=by
 rcases Deep.open_slice Tryz.underlying22 h with⟨aa,-⟩|⟨a',len',cap',m,n,D,Pl,aa,-,hl,hm,ak,-,af⟩
 ·simp at aa;obtain⟨rfl,rfl,rfl⟩:=aa;exact⟨[],[],rfl,by simp,by simp,VR.fold ⟨none,0,rfl,⟨AR _,fun h=>AA⟩,fun h=>absurd rfl h,fun k hk=>AA⟩⟩
 ·simp at aa;obtain⟨rfl,rfl,rfl⟩:=aa;have an:len<=m:=by rw[ak];split<;>omega
  rw[wP]at af;have ab:∀i,i<len->∃o:pE,(∀r,r<6->W.cell? ((a'.add (i*6)).add r)=(NL o)[r]?)/\o.n<=9223372036854775807/\Z o.e<=9223372036854775807:=by
   intro i hi;obtain⟨cs',h1,h2⟩:=af i AA;obtain⟨o,rfl,hn⟩:=me h2;obtain⟨-,-,h3⟩:=World.cells?_some h1;exact⟨o,h3,hn⟩
  obtain⟨l,ae,ad⟩:=wB len ab;have hp:=fun i o hi=>(ad i o hi).1;refine⟨l,l.flatMap opC,UC l,by rw[ae];unfold maxLen at hm;omega,(fun o ho=>by obtain⟨i,hi⟩:=CO ho;exact (ad i o hi).2),VR.fold ⟨some a',cap,by rw[ae],⟨AA,fun h=>AA⟩,fun aj=>?_,fun k hk=>AA⟩⟩;have am:0<Z l:=by
   cases l with
   |nil=>exact absurd rfl aj
   |cons o r=>simp
  obtain⟨b,off,spot⟩:=a';have ah:=hp 0 l[0] (AJ am) 0 (by decide);have ai:spot=none:=by
   have:W.cell? ⟨b,off,spot⟩=some (.int .i64 l[0].kind):=by simpa[Addr.add,NL]using ah
   exact World.cell?_spot this
  subst ai;have ac:b<W.heap.size:=by
   have:W.cell? ⟨b,off,none⟩=some (.int .i64 l[0].kind):=by simpa[Addr.add,NL]using ah
   unfold World.cell? at this;rcases FQ b W.heap.size with h|h
   ·exact h
   ·simp[JP h]at this
  refine⟨b,off,rfl,wC (fun _=>ac) l off fun i o hi r hr=>?_⟩;have:=hp i o hi r hr;rw[<-this];congr 1;unfold Addr.add;split<;>split<;>simp_all<;>omega
end Go.Proofs.YtmoeoppbmhfbpabGreatDoorI
