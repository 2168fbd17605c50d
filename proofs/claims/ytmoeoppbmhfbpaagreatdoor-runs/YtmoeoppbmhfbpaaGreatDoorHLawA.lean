import Derived.Test.YtmoeoppbmhfbpaaGreatDoorHProgO
import Derived.ProofKit
import Derived.OpenShut
import Derived.Below
import Derived.Carry
import Derived.Deep.Slices
set_option maxHeartbeats 16000000
set_option maxRecDepth 100000
set_option linter.all false
namespace Go.Proofs.YtmoeoppbmhfbpaaGreatDoorH
open Go.Abs
structure Zl where
 kind:Int
 n:Int
 m:Int
 s:Tx
 e:Tx
 f:Tx
def EO (o:Zl)(c:List AV):Prop:=c=[sc (.int .i64 o.kind),sc (.int .i64 o.n),sc (.int .i64 o.m),str o.s,str o.e,str o.f]
theorem tL (o:Zl)(c:List AV)(h:EO o c):c.length=6:=by rw[h];rfl
theorem zX {l:List Zl}{cs:List AV}{i:Nat}{o:Zl}(h:EL EO l cs)(hi:l[i]?=some o):∃r,cs.drop (i*6)=sc (.int .i64 o.kind)::sc (.int .i64 o.n)::sc (.int .i64 o.m)::str o.s::str o.e::str o.f::r:=by
 obtain⟨c,r,rfl,e⟩:=EL.get tL h hi;exact⟨r,e⟩
theorem cP (s:Tx)(A:St):ACalls Tryz.prog 82 [str s] A fun r A'=>r=two (A3 s)/\Keep A A':=by
 have hp:=Fw s;refine Ur s (fun hl h0=>?_) ?_ A
 ·cases h:Bf 16 s with
  |bad e=>rw[h]at hp;exact absurd (by rw[hp];exact Acy _) h0
  |got l r=>exact (Ek Ad2 h).1
 ·rw[hp];cases h:Bf 16 s with
  |bad e=>exact⟨Acz (by decide) (Acy (s.length-e.length)),Int.ofNat_le.2 (Nat.sub_le _ _)⟩
  |got l r=>exact⟨show (-1:Int)<= -1 by decide,show (-1:Int)<=(s.length:Int)by omega⟩
theorem rN (c:Int)(A:St):ACalls Tryz.prog 54 [sc (.int .i64 c)] A fun x A'=>x=sc (.int .i64 c)/\A'=A:=by
 refine Z9 4 [.tmp 2] Tryz.func54 ?_
 repeat' (first|refine Z1 ?_|(refine Z8 ?_;intro ya J)|(refine Z4 ?_;clear J ya)|(refine Z2 ?_ ?_<;>intro h aa<;>try exact Xp)|refine Z3 ?_|exact Zt|(apply J.out;clear J ya))
 first|exact⟨_,rfl,rfl,rfl⟩|exact⟨_,rfl,rfl⟩|exact⟨_,rfl⟩
def xK (lo hi:Int)(l:List Zl):Prop:=∀o∈l,lo<=o.kind->o.kind<=hi->∀c,EO o c->∀A,ACalls Tryz.prog 27 [ag c] A fun r A'=>r=sc (.bool true)/\Keep A A'
theorem mP (l:List Zl)(cs:List AV)(ids:Nat)(lo hi:Int)(hE:EL EO l cs)(hl:l.length<=9223372036854775807)(hP:xK lo hi l)(A:St):ACalls Tryz.prog 14 [sl ids l.length cs,sc (.int .i64 lo),sc (.int .i64 hi)] A fun r A'=>r=sc (.int .i64 (-1))/\Keep A A':=by
 have am:=EL.length tL hE;refine Z9 35 [.tmp 6] Tryz.func14 ?_
 repeat' (first|refine Z1 ?_|(refine Z8 ?_;intro ya J)|(refine Z4 ?_;clear J ya)|(refine Z2 ?_ ?_<;>intro h ab<;>try exact Xp)|refine Z3 ?_|exact Zt|(apply J.out;clear J ya))
 refine Ab (fun m s A'=>∃i:Nat,m=l.length-i/\i<=l.length/\s 0=sl ids l.length cs/\s 1=sc (.int .i64 lo)/\s 2=sc (.int .i64 hi)/\s 7=sc (.int .i64 i)/\Keep A A') l.length
  ⟨0,Ad2,Ad2,rfl,rfl,rfl,rfl,Keep.refl _⟩ ?_
 rintro m s A' ⟨i,rfl,ak,h0,h1,h2,h7,hK⟩;have ah:=hK.nobj;by_cases ad:i<l.length
 ·have aa:=Aav ad;have ac:=hP l[i] (Ab1 ad);obtain⟨r,hd⟩:=zX hE aa;generalize l[i]=o at hd aa ac;clear aa;by_cases hk:lo<=o.kind/\o.kind<=hi
  ·have af:=ac hk.1 hk.2 _ rfl;have aj:=hk.1;have ai:=hk.2;clear ac hk
   repeat' (first|refine Z1 ?_|(refine Z8 ?_;intro ya J)|(refine Z4 ?_;clear J ya)|(refine Z2 ?_ ?_<;>intro h ab<;>try exact Xp)|(refine Z5 ?_;refine Xi (af _) ?_;rintro _ _ ⟨rfl,an⟩)|refine Z3 ?_|exact Zt|(apply J.out;clear J ya))
   all_goals
    first
    |exact⟨l.length-(i+1),Ad2,i+1,rfl,Ad2,by simp,Xs⟩
  ·clear ac
   repeat' (first|refine Z1 ?_|(refine Z8 ?_;intro ya J)|(refine Z4 ?_;clear J ya)|(refine Z2 ?_ ?_<;>intro h ab<;>try exact Xp)|refine Z3 ?_|exact Zt|(apply J.out;clear J ya))
   all_goals
    first
    |exact⟨l.length-(i+1),Ad2,i+1,rfl,Ad2,by simp,Xs⟩
    |(exfalso;simp only[Adw]at*;omega)
 ·have ae:i=l.length:=Ad2;subst ae
  repeat' (first|refine Z1 ?_|(refine Z8 ?_;intro ya J)|(refine Z4 ?_;clear J ya)|(refine Z2 ?_ ?_<;>intro h ab<;>try exact Xp)|refine Z3 ?_|exact Zt|(apply J.out;clear J ya))
  first|exact⟨_,rfl,rfl,hK⟩|exact⟨_,rfl,rfl⟩|exact⟨_,rfl⟩
open Go.RowKit (Below)
def st0:St:={obj:=fun _=>[],nobj:=0,top:=fun _=>0,ntop:=0,ver:=fun _=>0}
def gh0 (W:World):Gh:={blk:=fun _=>0,cur:=fun _=>0,cap:=fun _=>0,siz:=fun _=>0,per:=fun b _=>b<W.heap.size,base:=W.heap.size,w0:=W}
theorem Aah (W:World)(hy:Abs.Hyp W.heap.size W):Abs.Inv (gh0 W) st0 W:=
 ⟨fun o h=>absurd h (Ac0 _),fun o o' h=>absurd h (Ac0 _),fun k h=>absurd h (Ac0 _),fun k k' h=>absurd h (Ac0 _),fun o k h=>absurd h (Ac0 _),
  fun b off h=>h,fun b off h=>h,Below.refl _ _,Aak _,hy⟩
theorem calls_law {f:FuncId}{x:AV}{W:World}{v:Value}(h:ACalls Tryz.prog f [x] st0 fun r A'=>r=sc (.bool true)/\Keep st0 A')(hv:VR (gh0 W) st0 W v x)(hy:Abs.Hyp W.heap.size W):
  Calls Tryz.prog f #[v] W fun e w'=>e= .returned (.bool true)/\Below W.heap.size W w':=by
 refine (h.2 (gh0 W) W #[v] (Aah W hy) (All2.cons hv (All2.nil _))).mono ?_;rintro e w' ⟨v2,G',y,A',rfl,I',E,aa,rfl,-⟩;have h2:v2= .bool true:=aa.unfold;refine⟨by rw[h2],?_⟩;have hb:=I'.below;rw[E.base,E.w0]at hb;exact hb
theorem iF {w:World}{per:Nat->Nat->Prop}{R:Value->AV->Prop}{b o:Nat}{xs ys:List AV}(h:Lie w per R b o xs)(g:Lie w per R b (o+xs.length) ys):Lie w per R b o (xs++ys):=fun i x hx=>by
 rw[List.getElem?_append]at hx;split at hx
 ·exact h i x hx
 ·rename_i hi;have:=g (i-xs.length) x hx;rwa[show o+xs.length+(i-xs.length)=o+i by omega]at this
def opC (o:Zl):List AV:=[sc (.int .i64 o.kind),sc (.int .i64 o.n),sc (.int .i64 o.m),str o.s,str o.e,str o.f]
def yW (o:Zl):List Value:=[.int .i64 o.kind,.int .i64 o.n,.int .i64 o.m,.string (bs o.s),.string (bs o.e),.string (bs o.f)]
def opAt (w:World)(b off:Nat)(o:Zl):Prop:=∀r,r<6->w.cell? ⟨b,off+r,none⟩=(yW o)[r]?
theorem yG {w:World}{per:Nat->Nat->Prop}{G:Gh}{A:St}{b off:Nat}{o:Zl}(hp:∀k,per b k)(h:opAt w b off o):Lie w per (VR G A w) b off (opC o):=fun i x hx=>by
 refine⟨hp _,?_⟩
 match i,hx with
 |0,hx=>simp[opC]at hx;subst hx;exact⟨_,h 0 (by decide),VR.sc _⟩
 |1,hx=>simp[opC]at hx;subst hx;exact⟨_,h 1 (by decide),VR.sc _⟩
 |2,hx=>simp[opC]at hx;subst hx;exact⟨_,h 2 (by decide),VR.sc _⟩
 |3,hx=>simp[opC]at hx;subst hx;exact⟨_,h 3 (by decide),VR.sc _⟩
 |4,hx=>simp[opC]at hx;subst hx;exact⟨_,h 4 (by decide),VR.sc _⟩
 |5,hx=>simp[opC]at hx;subst hx;exact⟨_,h 5 (by decide),VR.sc _⟩
 |i+6,hx=>simp[opC]at hx
theorem lM {w:World}{per:Nat->Nat->Prop}{G:Gh}{A:St}{b:Nat}(hp:∀k,per b k):∀(l:List Zl) (off:Nat),(∀i o,l[i]?=some o->opAt w b (off+i*6) o)->Lie w per (VR G A w) b off (l.flatMap opC)
 |[],off,h=>fun i x hx=>by simp at hx
 |o::l,off,h=>by
  rw[Aca];refine iF (yG hp (by simpa using h 0 o rfl)) (lM hp l _ fun i o' hi=>?_);have:=h (i+1) o' (by simpa using hi);rwa[show off+(i+1)*6=off+(opC o).length+i*6 by simp[opC];omega]at this
theorem sI:∀l:List Zl,EL EO l (l.flatMap opC)
 |[]=>rfl
 |o::l=>⟨opC o,l.flatMap opC,rfl,sI l,by rw[Aca]⟩
theorem lL {p:Nat->Zl->Prop}:∀(n:Nat),(∀i,i<n->∃o,p i o)->∃l:List Zl,l.length=n/\∀i o,l[i]?=some o->p i o
 |0,_=>⟨[],rfl,fun i o h=>by simp at h⟩
 |n+1,h=>by
  obtain⟨l,hl,hp⟩:=lL n fun i hi=>h i Ad2;obtain⟨o,ho⟩:=h n Ad2;refine⟨l++[o],by simp[hl],fun i o' hi=>?_⟩;rw[List.getElem?_append]at hi;split at hi
  ·exact hp i o' hi
  ·rename_i aa;have:i=n:=by
    by_cases e:i-l.length=0
    ·omega
    ·rw[Aa7 (by simp;omega)]at hi;cases hi
   subst this;rw[show i-l.length=0 by omega]at hi;simp at hi;subst hi;exact ho
theorem lY:Tryz.prog.cellsOf 43=6:=Ad5
theorem cells3:Tryz.prog.cellsOf 3=1:=Ad5
theorem yQ:Tryz.prog.cellsOf 9=1:=Ad5
theorem uZ {H:Type}{enc:TypeId×Value->H}{w:World}{base:Nat}{spare:Nat->Bool}{held:Bool}{fuel:Nat}{cs:List Value}{x:DataW H×List MemPlace}(h:DataW.trod enc Tryz.prog w base spare held fuel 43 cs=some x):∃o:Zl,cs=yW o:=by
 obtain⟨xs,n,-,-,hl,aa,hf⟩:=DataW.trod_struct Tryz.underlying43 h;rw[lY]at hl
 match xs,aa with
 |[y0,y1,y2,y3,y4,y5],_=>
  have f0:DataW.trod enc Tryz.prog w base spare held n 3 ((cs.drop 0).take (Tryz.prog.cellsOf 3))=some y0:=hf 0 _ rfl;have f1:DataW.trod enc Tryz.prog w base spare held n 3 ((cs.drop 1).take (Tryz.prog.cellsOf 3))=some y1:=hf 1 _ rfl;have f2:DataW.trod enc Tryz.prog w base spare held n 3 ((cs.drop 2).take (Tryz.prog.cellsOf 3))=some y2:=hf 2 _ rfl;have f3:DataW.trod enc Tryz.prog w base spare held n 9 ((cs.drop 3).take (Tryz.prog.cellsOf 9))=some y3:=hf 3 _ rfl;have f4:DataW.trod enc Tryz.prog w base spare held n 9 ((cs.drop 4).take (Tryz.prog.cellsOf 9))=some y4:=hf 4 _ rfl;have f5:DataW.trod enc Tryz.prog w base spare held n 9 ((cs.drop 5).take (Tryz.prog.cellsOf 9))=some y5:=hf 5 _ rfl;rw[cells3]at f0 f1 f2;rw[yQ]at f3 f4 f5;obtain⟨k,e0,-,-⟩:=DataW.trod_int Tryz.underlying3 f0;obtain⟨a,e1,-,-⟩:=DataW.trod_int Tryz.underlying3 f1;obtain⟨b,e2,-,-⟩:=DataW.trod_int Tryz.underlying3 f2;obtain⟨s,e3,-,-⟩:=DataW.trod_string Tryz.underlying9 f3;obtain⟨t,e4,-,-⟩:=DataW.trod_string Tryz.underlying9 f4;obtain⟨u,e5,-,-⟩:=DataW.trod_string Tryz.underlying9 f5
  match cs,hl with
  |[c0,c1,c2,c3,c4,c5],_=>
   simp at e0 e1 e2 e3 e4 e5;subst e0 e1 e2 e3 e4 e5;exact⟨⟨k,a,b,s.data.toList,t.data.toList,u.data.toList⟩,by simp only[yW,<-zR]⟩
theorem open_script {H:Type}{enc:TypeId×Value->H}{W:World}{spare:Nat->Bool}{held:Bool}{fuel:Nat}{a:Option Addr}{len cap:Nat}{x:DataW H×List MemPlace}(h:DataW.trod enc Tryz.prog W 0 spare held fuel 22 [.slice a len cap]=some x):
  ∃(l:List Zl) (cs:List AV),EL EO l cs/\l.length<=9223372036854775807/\VR (gh0 W) st0 W (.slice a len cap) (sl 0 l.length cs):=by
 rcases Deep.open_slice Tryz.underlying22 h with⟨aa,-⟩|⟨a',len',cap',m,n,D,Pl,aa,-,hl,hm,aj,-,ae⟩
 ·simp at aa;obtain⟨rfl,rfl,rfl⟩:=aa;exact⟨[],[],rfl,by simp,VR.fold ⟨none,0,rfl,⟨Aak _,fun h=>Ad2⟩,fun h=>absurd rfl h,fun k hk=>Ad2⟩⟩
 ·simp at aa;obtain⟨rfl,rfl,rfl⟩:=aa;have am:len<=m:=by rw[aj];split<;>omega
  rw[lY]at ae;have ab:∀i,i<len->∃o:Zl,∀r,r<6->W.cell? ((a'.add (i*6)).add r)=(yW o)[r]?:=by
   intro i hi;obtain⟨cs',h1,h2⟩:=ae i Ad2;obtain⟨o,rfl⟩:=uZ h2;obtain⟨-,-,h3⟩:=World.cells?_some h1;exact⟨o,h3⟩
  obtain⟨l,ad,hp⟩:=lL len ab;refine⟨l,l.flatMap opC,sI l,by rw[ad];unfold maxLen at hm;omega,VR.fold ⟨some a',cap,by rw[ad],⟨Ad2,fun h=>Ad2⟩,fun ai=>?_,fun k hk=>Ad2⟩⟩;have ak:0<l.length:=by
   cases l with
   |nil=>exact absurd rfl ai
   |cons o r=>simp
  obtain⟨b,off,spot⟩:=a';have af:=hp 0 l[0] (Aav ak) 0 (by decide);have ah:spot=none:=by
   have:W.cell? ⟨b,off,spot⟩=some (.int .i64 l[0].kind):=by simpa[Addr.add,yW]using af
   exact World.cell?_spot this
  subst ah;have ac:b<W.heap.size:=by
   have:W.cell? ⟨b,off,none⟩=some (.int .i64 l[0].kind):=by simpa[Addr.add,yW]using af
   unfold World.cell? at this;rcases Aan b W.heap.size with h|h
   ·exact h
   ·simp[Aao h]at this
  refine⟨b,off,rfl,lM (fun _=>ac) l off fun i o hi r hr=>?_⟩;have:=hp i o hi r hr;rw[<-this];congr 1;unfold Addr.add;split<;>split<;>simp_all<;>omega
end Go.Proofs.YtmoeoppbmhfbpaaGreatDoorH
