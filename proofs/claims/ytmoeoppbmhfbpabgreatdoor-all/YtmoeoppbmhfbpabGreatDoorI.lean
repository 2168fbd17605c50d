import Derived.Test.YtmoeoppbmhfbpabGreatDoorH
set_option maxHeartbeats 64000000
set_option maxRecDepth 100000
set_option linter.all false
open List
open List renaming length->Z
namespace Go.Proofs.YtmoeoppbmhfbpabGreatDoorJ
open Go.Abs Tryz
def iZ {ida nA cA fz mo ido nO a c oc b B}:(C7 ida nA cA fz mo ido nO oc B).set 3 (sl a c b)=C7 ida nA cA fz mo a c b B:=rfl
def FC.addO {b σ' ow ida nA cA fz mo ido u oc B N id' a k}(h:FC b ow ida nA cA fz mo ido u oc B N)(p:Bf a k)
  (s:Live σ' id' (Z u+1)) (l:id'=ido\/b.D+2<=id') (t:id'≠1)
  (i:∀o,o<b.B->o≠ow->σ'.C o=b.C o) (v:∀o,o<b.B->o≠ow->σ'.ver o=b.ver o) (f:b.B<=σ'.B) (c:b.D<=σ'.D)
  (d:∀j,j<b.D->j+2≠ido->σ'.top j=b.top j) (g:σ'.C ow=(C7 ida nA cA fz mo ido (Z u) oc B).set 3 (sl id' (Z u+1) (oc++k))):
  FC σ' ow ida nA cA fz mo id' (u++[a]) (oc++k) B N/\KW ow (Dv ido (Z u) B) (Dv id' (Z (u++[a])) B) b σ':=by
 have n:(Dv ido (Z u) B)[0]?=some (ido,Z u):=rfl;let⟨q,m⟩:=JB.grow (ow:=ow) h.rw' n s l t i v f c d;have e:Dv id' (Z (u++[a])) B=(Dv ido (Z u) B).set 0 (id',Z u+1):=by simp[Dv]
 rw[e];refine⟨⟨?_,BZ h.lo f,h.bl,r.append h.oe (r.single p),e▸q,h.bn⟩,m⟩;rw[g,iZ];simp
def QR {fz A cA j p x h}(m:H3 A cA)(b:CJ fz j p x)(g:U1 fz A x h):DX h:=by
 obtain⟨n,l,-,rfl⟩:=g;refine⟨b.cl.2.1.1,λt f=>?_,by show Z (x.h.A.map _)<=1000;rw[BV];exact b.cl.2.1.2.2⟩;obtain⟨u,c,rfl⟩:=AN.1 f;cases d:Ab u with
 |false=>rw[Cm d];exact b.cl.2.1.2.1 u c
 |true=>
  let⟨a,i,k,e⟩:=b.saf u d (.inl c);exact (m.cl _ (l a i k)).2.1 _ (AN.2 ⟨u,e,rfl⟩)
def ZL {fz A cA mo i p x m c S f}(k:H3 A cA)(d:CJ fz i p x)(g:∀a∈m,DX a)(h:aE fz A mo x m S c f):∀a∈c,DX a:=by obtain⟨l,rfl,j⟩:=h.ext;intro a e;obtain b|b:=AW.1 e;exact g a b;exact QR k d (j a b).1
def OX (fz:Bool)(A:oq)(cA:oh)(ida:Nat)(mo:Int)(f p:Nat):Prop:=∀(x:AB) (c:oh),AJ x c->CJ fz f p x->∀(e b:Nat) (j:oq) (i:oh) (B:BK) (N:Nat) (d:St),FC d e ida (Z A) cA fz mo b j i B N->N+Hr f (Z A) p+1001<=1000000000000+Z j->j.Nodup->(Z j:Int)<=mo+1->(∀a∈j,DX a)->CI fz A j mo (Sp B) (Z x.A)->
  ni 202 [ptr e 0,ag c] d λk g=>Ul fz A cA ida mo f p x e b j B N d g
def eK (fz A cA ida mo c0)(P:H3 A cA)(fm:0<=mo)(fn:mo<=900)(p)(IH:∀q,p=q+1->OX fz A cA ida mo c0 q):OX fz A cA ida mo c0 p:=by
 intro x bl hc n v d b z B N g hW hN bt c2 f4 hS;have b5:=hc;obtain⟨M,id,ai,hb,rfl⟩:=hc.cells;unfold A4;unfold A4 at b5;have au:=n.fits;have fg:=au.1;have ei:=hW.lo;have d1:=P.len;have fe:Z b<=901:=L;have ce:=λg=>M9 x.h _ ⟨M,rfl⟩ au.2.1 g;have du:=λg=>Gt b z d x.h [my x.h.nt,O x.h.B,lw M x.h.A] hW.oe ⟨M,rfl⟩ L (λa l=>(f4 a l).2.2) g;have dv:=λg=>Gt A cA ida x.h [my x.h.nt,O x.h.B,lw M x.h.A] P.el ⟨M,rfl⟩ d1 (λa l=>(P.cl a l).2.2) g;have ep:(C7 ida (Z A) cA fz mo d (Z b) z B)[0]?=some (sl ida (Z A) cA):=rfl;have ek:(C7 ida (Z A) cA fz mo d (Z b) z B).head?=some (sl ida (Z A) cA):=rfl;have eo:(C7 ida (Z A) cA fz mo d (Z b) z B)[1]?=some (my fz):=rfl;have en:(C7 ida (Z A) cA fz mo d (Z b) z B)[2]?=some (Y mo):=rfl;have em:(C7 ida (Z A) cA fz mo d (Z b) z B)[3]?=some (sl d (Z b) z):=rfl;have eb:=Jc (ida:=ida) (nA:=Z A) (cA:=cA) (fz:=fz) (mo:=mo) (ido:=d) (nO:=Z b) (oc:=z) hW.bl;have dn:=hW.ob;generalize bb:C7 ida (Z A) cA fz mo d (Z b) z B=wc at*
 have cf:V _:=bb;clear bb;refine Z9 109 [] func202 ?_;refine X ?_;obtain⟨ao,c3⟩:∃ao,ao=g.new (ko x M id ai):=⟨_,rfl⟩;rw[<-c3];have dy:W g ao:=by rw[c3];exact (W.refl g).new _
 have e7:ao.B=g.B+1:=by rw[c3];rfl
 have be:ao.C v=wc:=by rw[dy.C _ ei,dn]
 have ba:ao.C g.B=(ko x M id ai):=by rw[c3];exact Ao
 clear c3;refine A2 (Q:=λe s' f=>e= .normal/\∃th,s' 4=my th/\s' 0=ptr v 0/\s' 3=ptr g.B 0/\W ao f/\(th=true↔(aI x.h/\(x.h∈b\/x.h∈A)))) ?_ ?_
 ·by_cases hz:Kh x.h=0
  ·rw[hz]at ce;have d7:((((0:Nat):Int))==0)=true:=rfl;have cg:V (aI x.h):=EP.1 hz;refine Ar Ag (λ_=>True) [] [0,1] 21 (nv 23 3) AH (λ_ _ _ h=>by cases h.1) ?_;intro yb ya;refine Z3 ?_;refine ya.o _ ?_;clear ya yb;refine Ai (i:=2) AH ?_;refine Am ?_;intro yb ya;refine Z3 ?_;refine AF.mono (ce _) ?_;rintro _ C ⟨rfl,I⟩;refine Z3 ?_;refine ya.o _ _ ⟨Al I,?_⟩;clear ya yb;have bd:C.C v=wc:=by rw[I.C _ L,be]
   have a0:C.C g.B=(ko x M id ai):=by rw[I.C _ L,ba]
   have ck:=I.B;refine Hv [3,4,5,6,7,8,9,10] 12 20 (nv 23 2047) rfl AH AH (λ_ _ _ h=>by cases h.1) (I).B (λo u _=>(I).ver o u) ?_;intro yb ya;refine Z3 ?_;refine ya.o _ ?_;clear ya yb;refine Ai (i:=11) AH ?_;refine Am ?_;intro yb ya;refine Z3 ?_;refine AF.mono (du _) ?_;rintro _ bj ⟨b1,rfl,dt,m⟩;refine Z3 ?_;refine ya.o _ _ ⟨Al m,?_⟩;clear ya yb;have a4:bj.C v=wc:=by rw[m.C _ L,bd]
   have a9:bj.C g.B=(ko x M id ai):=by rw[m.C _ L,a0]
   have bw:=m.B;cases b1 with
   |true=>
    refine Hv [12,13,14,15,16,17,18] 4 11 (nv 23 524287) rfl AH AH (λ_ _ _ h=>by cases h.1) (m).B (λo u _=>(m).ver o u) ?_;intro yb ya;refine Z3 ?_;refine ya.o _ ?_;clear ya yb;refine Ai (i:=19) AH ?_;refine Am ?_;intro yb ya;refine Z3 ?_;refine ya.o _ _ ⟨kept_refl,?_⟩;clear ya yb;refine Df [20,21,22] AH AH (λ_ _ _ h=>by cases h.1) (AU _) (λo u _=>rfl) ?_;intro yb ya;refine Z3 ?_;refine ya.o _ _ ⟨rfl,true,AI,by simp[upd,AL, *],AI,I.trans m,λ_=>⟨cg.o,.inl (dt.1 rfl)⟩,λ_=>rfl⟩
   |false=>
    refine Hv [12,13,14,15,16,17,18] 4 11 (nv 23 524287) rfl AH AH (λ_ _ _ h=>by cases h.1) (m).B (λo u _=>(m).ver o u) ?_;intro yb ya;refine Z3 ?_;refine ya.o _ ?_;clear ya yb;refine Ai (i:=19) AH ?_;refine Am ?_;intro yb ya;refine Z3 ?_;refine AF.mono (dv _) ?_;rintro _ co ⟨b2,rfl,ds,T⟩;refine Z3 ?_;refine ya.o _ _ ⟨Al T,?_⟩;clear ya yb;refine Df [20,21,22] AH AH (λ_ _ _ h=>by cases h.1) T.B (λo u _=>T.ver o u) ?_;intro yb ya;refine Z3 ?_;refine ya.o _ _ ⟨rfl,b2,AG,by simp[upd,AL, *],AI,(I.trans m).trans T,λh=>⟨cg.o,.inr (ds.1 h)⟩,λh=>?_⟩;rcases h.2 with h'|h'
    ·exact absurd (dt.2 h') nk
    exact ds.2 h'
  have d7:(((Kh x.h:Nat):Int)==0)=false:=by simp;omega
  have cg:V (¬aI x.h):=λh=>hz (EP.2 h);generalize Kh x.h=lz at*
  refine Ar Ag (λ_=>True) [] [0,1] 21 (nv 23 3) AH (λ_ _ _ h=>by cases h.1) ?_;intro yb ya;refine Z3 ?_;refine ya.o _ ?_;clear ya yb;refine Ai (i:=2) AH ?_;refine Am ?_;intro yb ya;refine Z3 ?_;refine AF.mono (ce _) ?_;rintro _ C ⟨rfl,I⟩;refine Z3 ?_;refine ya.o _ _ ⟨Al I,?_⟩;clear ya yb;refine Hv [3,4,5,6,7,8,9,10] 12 20 (nv 23 2047) rfl AH AH (λ_ _ _ h=>by cases h.1) (I).B (λo u _=>(I).ver o u) ?_;intro yb ya;refine Z3 ?_;refine ya.o _ ?_;clear ya yb;refine Ai (i:=11) AH ?_;refine Am ?_;intro yb ya;refine Z3 ?_;refine ya.o _ _ ⟨kept_refl,?_⟩;clear ya yb;refine Hv [12,13,14,15,16,17,18] 4 11 (nv 23 524287) rfl AH AH (λ_ _ _ h=>by cases h.1) (AU _) (λo u _=>rfl) ?_;intro yb ya;refine Z3 ?_;refine ya.o _ ?_;clear ya yb;refine Ai (i:=19) AH ?_;refine Am ?_;intro yb ya;refine Z3 ?_;refine ya.o _ _ ⟨kept_refl,?_⟩;clear ya yb;refine Df [20,21,22] AH AH (λ_ _ _ h=>by cases h.1) (AU _) (λo u _=>rfl) ?_;intro yb ya;refine Z3 ?_;refine ya.o _ _ ⟨rfl,false,AI,by simp[upd,AL, *],AI,I,λh=>(by cases h),λh=>absurd h.1 cg.o⟩
 rintro e s' C ⟨rfl,th,g4,g0,g3,I,dc⟩;have bd:C.C v=wc:=by rw[I.C _ L,be]
 have a0:C.C g.B=(ko x M id ai):=by rw[I.C _ L,ba]
 have ck:=I.B;have bq:V _:=dc;clear dc ce du dv be ba;have cb:W g C:=dy.trans I;have a6:=hW.keep cb;cases th with
 |true=>
  have K:V (Ul fz A cA ida mo c0 p x v d b B N g C):=by
   refine⟨d,b,z,B,N,a6,KW.ofKeep cb,Tk bt c2 hS (λ_ h hh=>?_),L⟩;obtain⟨hg,hm⟩:=bq.o.1 rfl;rw[VD hg hh];exact hm.symm
  clear bq hW hS a6;refine X ?_;refine A2 (Q:=λe a2 f=>e= .normal/\a2 48=my true/\f=C) ?_ ?_
  ·refine Ar Ag (λ_=>True) [16,17] [0,1,2,3,4,5,6,7,8,9,10,11,12,13,14,15] 2 (nv 18 65535) AH (λ_ _ _ h=>by cases h.1) ?_;intro yb ya;refine Z3 ?_;refine ya.o _ ?_;clear ya yb;refine Ai (i:=16) AH ?_;refine Am ?_;intro yb ya;refine Z3 ?_;refine ya.o _ _ ⟨A3 rfl,?_⟩;clear ya yb;refine Ai (i:=17) AH ?_;refine Am ?_;intro yb ya;refine Z3 ?_;refine ya.o _ _ ⟨A3 rfl,?_⟩;clear ya yb;exact Aw AH ⟨rfl,AG,rfl⟩
  rintro e a2 f ⟨rfl,E,rfl⟩
  first|refine Cj E ?_|(refine Iy ?_;refine Cj E ?_)
  refine X ?_
  first|exact⟨_,rfl,K.o⟩|exact K.o
 |false=>
  by_cases b3:mo<(Z b:Int)
  ·have dq:decide ((Z b:Int)>mo)=true:=nn b3
   have dp:decide (mo<(Z b:Int))=true:=nn b3
   have K:V (Ul fz A cA ida mo c0 p x v d b B N g C):=
    ⟨d,b,z,B,N,a6,KW.ofKeep cb,Tk bt c2 hS (λh=>L),L⟩
   clear bq hW hS a6;refine X ?_;refine A2 (Q:=λe a2 f=>e= .normal/\a2 48=my true/\f=C) ?_ ?_
   ·refine Ar Ag (λ_=>True) [16,17] [0,1,2,3,4,5,6,7,8,9,10,11,12,13,14,15] 2 (nv 18 65535) AH (λ_ _ _ h=>by cases h.1) ?_;intro yb ya;refine Z3 ?_;refine ya.o _ ?_;clear ya yb;refine Ai (i:=16) AH ?_;refine Am ?_;intro yb ya;refine Z3 ?_;refine ya.o _ _ ⟨A3 rfl,?_⟩;clear ya yb;refine Ai (i:=17) AH ?_;refine Am ?_;intro yb ya;refine Z3 ?_;refine ya.o _ _ ⟨A3 rfl,?_⟩;clear ya yb;exact Aw AH ⟨rfl,AG,rfl⟩
   rintro e a2 f ⟨rfl,E,rfl⟩
   first|refine Cj E ?_|(refine Iy ?_;refine Cj E ?_)
   refine X ?_
   first|exact⟨_,rfl,K.o⟩|exact K.o
  have dq:decide ((Z b:Int)>mo)=false:=nn b3;have dp:decide (mo<(Z b:Int))=false:=nn b3;have c9:=λg h=>sZ x _ b5 n.cl fg v ida (Z A) cA fz mo d b z B N L g h;refine X ?_;refine A2 (Q:=λe a2 f=>e= .normal/\a2 0=ptr v 0/\a2 3=ptr g.B 0/\((Sp B (Fb x)/\a2 48=my true/\W C f)\/(¬Sp B (Fb x)/\a2 48=my false/\∃c4 y,B[Jn (Fb x)]?=some y/\FC f v ida (Z A) cA fz mo d b z (B.set (Jn (Fb x)) (c4,y.2++[Fb x])) (N+1)/\KW v (Dv d (Z b) B) (Dv d (Z b) (B.set (Jn (Fb x)) (c4,y.2++[Fb x]))) C f))) ?_ ?_
  ·refine Ar Ag (λ_=>True) [16,17] [0,1,2,3,4,5,6,7,8,9,10,11,12,13,14,15] 2 (nv 18 65535) AH (λ_ _ _ h=>by cases h.1) ?_;intro yb ya;refine Z3 ?_;refine ya.o _ ?_;clear ya yb;refine Ai (i:=16) AH ?_;refine Am ?_;intro yb ya;refine Z3 ?_;refine AF.mono (c9 _ a6) ?_;rintro f6 bj (⟨h1,rfl,m⟩|⟨h1,rfl,h3⟩)
   ·refine Z3 ?_;refine ya.o _ _ ⟨A3 rfl,?_⟩;clear ya yb;refine Ai (i:=17) AH ?_;refine Am ?_;intro yb ya;refine Z3 ?_;refine ya.o _ _ ⟨A3 rfl,?_⟩;clear ya yb;exact Aw AH ⟨rfl,AI,AI,.inl ⟨h1,AG,m⟩⟩
   refine Z3 ?_;refine ya.o _ _ ⟨A3 rfl,?_⟩;clear ya yb;refine Ai (i:=17) AH ?_;refine Am ?_;intro yb ya;refine Z3 ?_;refine ya.o _ _ ⟨A3 rfl,?_⟩;clear ya yb;exact Aw AH ⟨rfl,AI,AI,.inr ⟨h1,AG,h3⟩⟩
  rintro e a2 bj ⟨rfl,f0,f3,b6⟩;rcases b6 with⟨cr,E,m⟩|⟨cr,E,c4,y,hy,bv,aw⟩
  ·have K:V (Ul fz A cA ida mo c0 p x v d b B N g bj):=
    ⟨d,b,z,B,N,a6.keep m,KW.ofKeep (cb.trans m),Tk bt c2 hS (hS x n.cl (AU _) cr),L⟩
   clear bq hW hS a6 c9
   first|refine Cj E ?_|(refine Iy ?_;refine Cj E ?_)
   refine X ?_
   first|exact⟨_,rfl,K.o⟩|exact K.o
  have bm:=λs=>ZY (s:=s) (id':=c4) hy;generalize e5:B.set (Jn (Fb x)) (c4,y.2++[Fb x])=Bq at bv aw bm;have db:V (Sp Bq=λs=>Sp B s\/s=Fb x):=funext λs=>propext (bm s);have a9:bj.C g.B=(ko x M id ai):=by rw[aw.C _ L L,a0]
  have bw:=aw.B;have cc:=(KW.ofKeep cb).trans aw;have a4:=bv.ob;have dm:(C7 ida (Z A) cA fz mo d (Z b) z Bq)[0]?=some (sl ida (Z A) cA):=rfl;have di:(C7 ida (Z A) cA fz mo d (Z b) z Bq).head?=some (sl ida (Z A) cA):=rfl;have dl:(C7 ida (Z A) cA fz mo d (Z b) z Bq)[1]?=some (my fz):=rfl;have dk:(C7 ida (Z A) cA fz mo d (Z b) z Bq)[3]?=some (sl d (Z b) z):=rfl;have dh:=Jc (ida:=ida) (nA:=Z A) (cA:=cA) (fz:=fz) (mo:=mo) (ido:=d) (nO:=Z b) (oc:=z) bv.bl;clear bm e5 hy c9 cr bd a0 ep ek eo en em eb dn cf hW a6 dq dp g4 g0 g3 I;generalize bb:C7 ida (Z A) cA fz mo d (Z b) z Bq=es at a4 dm di dl dk dh;have cf:V _:=bb;clear bb;have dx:=λg=>qM x _ fz b5 au g
  first|refine De E ?_|(refine Iy ?_;refine De E ?_)
  refine X ?_;refine A2 (Q:=λe s3 f=>e= .normal/\∃cl,OW fz x cl/\s3 5=Y cl/\s3 0=ptr v 0/\s3 3=ptr g.B 0/\W bj f) ?_ ?_
  ·refine Ar Ag (λ_=>True) [] [0,1,2,3,4] 2 (nv 7 31) AH (λ_ _ _ h=>by cases h.1) ?_;intro yb ya;refine Z3 ?_;refine ya.o _ ?_;clear ya yb;refine Ai (i:=5) AH ?_;refine Am ?_;intro yb ya;refine Z3 ?_;refine AF.mono (dx _) ?_;rintro _ co ⟨cl,rfl,c5,T⟩;refine Z3 ?_;refine ya.o _ _ ⟨Al T,?_⟩;clear ya yb;refine Ai (i:=6) AH ?_;refine Am ?_;intro yb ya;refine Z3 ?_;refine ya.o _ _ ⟨Al T,?_⟩;clear ya yb;exact Aw AH ⟨rfl,cl,c5,AG,AI,AI,T⟩
  rintro e s3 co ⟨rfl,cl,c5,g5,e0,e3,T⟩;have ca:=bv.keep T;have bc:co.C v=es:=by rw[T.C _ bv.lo,a4]
  have cj:=T.B;have az:co.C g.B=(ko x M id ai):=by rw[T.C _ L,a9]
  have ah:=cc.trans (KW.ofKeep T);clear dx a4 a9 aw cc f0 f3 E;rcases c5 with⟨rfl,af⟩|⟨j,b0,rfl,bu,br⟩
  ·have cv:decide ((-1:Int)<0)=true:=nr
   have d0:=λg=>oE x _ A cA ida b5 au P.el d1 (λa l=>(P.cl a l).2.2) g;refine X ?_;refine A2 (Q:=λe s4 f=>e= .normal/\∃q,s4 69=my q/\(q=true↔∀a∈x.A,wT a∉A)/\s4 0=ptr v 0/\s4 3=ptr g.B 0/\W co f) ?_ ?_
   ·cases fz with
    |true=>
     have HB:V (∀a∈x.A,wT a∉A):=λa l=>by have:=af a l;simp[Pt]at this
     refine Ar Ag (λ_=>True) [] [0,1,2,3,4,5,6,7,8,9] 3 (nv 13 1023) AH (λ_ _ _ h=>by cases h.1) ?_;intro yb ya;refine Z3 ?_;refine ya.o _ ?_;clear ya yb;refine Ai (i:=10) AH ?_;refine Am ?_;intro yb ya;refine Z3 ?_;refine ya.o _ _ ⟨kept_refl,?_⟩;clear ya yb;refine Df [11,12] AH AH (λ_ _ _ h=>by cases h.1) (AU _) (λo u _=>rfl) ?_;intro yb ya;refine Z3 ?_;refine ya.o _ _ ⟨rfl,true,AI,⟨λ_=>HB.o,λ_=>rfl⟩,AI,AI,W.refl _⟩
    |false=>
     have fh:∀a∈x.A,a.nt=true:=λa l=>by have:=af a l;simpa[Pt]using this
     refine Ar Ag (λ_=>True) [] [0,1,2,3,4,5,6,7,8,9] 3 (nv 13 1023) AH (λ_ _ _ h=>by cases h.1) ?_;intro yb ya;refine Z3 ?_;refine ya.o _ ?_;clear ya yb;refine Ai (i:=10) AH ?_;refine Am ?_;intro yb ya;refine Z3 ?_;refine AF.mono (d0 _) ?_;rintro _ D ⟨bo,rfl,dr,ay⟩;refine Z3 ?_;refine ya.o _ _ ⟨Al ay,?_⟩;clear ya yb;have d4:V _:=dr;clear dr;refine Df [11,12] AH AH (λ_ _ _ h=>by cases h.1) ay.B (λo u _=>ay.ver o u) ?_;intro yb ya;refine Z3 ?_;refine ya.o _ _ ⟨rfl,!bo,AI,?_,AI,AI,ay⟩;cases bo with
     |true=>
      obtain⟨a,l,-,hm⟩:=d4.o.1 rfl;exact⟨λh=>(by cases h),λh=>absurd hm (h a l)⟩
     |false=>exact⟨λ_ a l hm=>(by have:=d4.o.2 ⟨a,l,fh a l,hm⟩;cases this),λ_=>rfl⟩
   rintro e s4 D ⟨rfl,q,dg,hq,e0,e3,ay⟩;have S:=ca.keep ay;have a3:D.C v=es:=by rw[ay.C _ ca.lo,bc]
   have ci:=ay.B;have a8:D.C g.B=(ko x M id ai):=by rw[ay.C _ L,az]
   have av:=ah.trans (KW.ofKeep ay);have bf:x.h∉A/\x.h∉b:=by
    have hg:=(lH n.saf af).1;exact⟨λh=>(by have:=bq.o.2 ⟨hg,.inr h⟩;cases this),λh=>(by have:=bq.o.2 ⟨hg,.inl h⟩;cases this)⟩
   have ex:∀k:Nat,(q=true/\k=1\/q=false/\k=0)->N+1+Z b<=N+(Z b+k)+Hr c0 (Z A) p:=by
    intro k hk;rcases hk with⟨-,rfl⟩|⟨dj,rfl⟩
    ·omega
    have br:p=0:=by
     rw[<-n.cnt,countP_eq_zero];intro a l;rw[af a l];simp
    rcases n.neg with h'|h'
    ·rw[br,Hr,h'];omega
    exfalso;have:q=true:=hq.2 λa l=>by have h1:=h' a l;rw[af a l]at h1;cases h1
    rw[this]at dj;cases dj
   clear d0 cv T ay ca bc az ah;cases q with
   |false=>
    have K:V (Ul fz A cA ida mo c0 p x v d b B N g D):=
     ⟨d,b,z,Bq,N+1,S,av,by rw[db.o];exact eL n.cl bt L hS n.saf af bf (.inr ⟨λh=>(by have:=hq.2 h;cases this),rfl⟩),by have:=ex 0 (.inr ⟨rfl,rfl⟩);omega⟩
    first|refine De dg ?_|(refine Iy ?_;refine De dg ?_)
    refine X ?_
    first|exact⟨_,rfl,K.o⟩|exact K.o
   |true=>
    have HI:V (aE fz A mo x b (Sp B) (b++[x.h]) (Sp Bq)):=by
     rw[V,db.o];exact eL n.cl bt L hS n.saf af bf (.inl ⟨hq.1 rfl,rfl⟩)
    have fa:=ex 1 (.inl ⟨rfl,rfl⟩);have ev:Live D d (Z b):=S.rw'.1 (d,Z b) (by simp[Dv]);have cn:=r.length A7 S.oe;clear ex hq bf
    first|refine Cj dg ?_|(refine Iy ?_;refine Cj dg ?_)
    refine X ?_;refine A2 (Q:=λe s5 f=>e= .normal/\Ul fz A cA ida mo c0 p x v d b B N g f) ?_ ?_
    ·refine Ar Ag (λ_=>True) [11] [0,1,2,3,4,5,6] 5 (nv 12 127) AH (λ_ _ _ h=>by cases h.1) ?_;intro yb ya;refine Z3 ?_;refine ya.o _ ?_;clear ya yb;refine Ai (i:=7) AH ?_;refine Am ?_;intro yb ya;refine Z3 ?_;refine ya.o _ _ ⟨Al ((W.refl _).lay 1),?_⟩;clear ya yb;refine Ai (i:=8) AH ?_;refine Am ?_;intro yb ya;refine Z3 ?_;refine Ty (by first|exact It) ev nr (by rfl) cn (by rfl) (by rfl) nr L L ?_;intro e1 f1 ew ct cu ad ab ac aa ff;refine Z3 ?_;refine ya.o _ _ ⟨λ_ o u _=>by rw[ac],?_⟩;clear ya yb;have fl:f1.C v=es:=by rw[ad,a3]
     refine Ai (i:=9) AH ?_;refine Am ?_;intro yb ya;refine Z3 ?_;refine ya.o _ _ ⟨λ_ o u _=>by rw[ac],?_⟩;clear ya yb;refine Ai (i:=10) AH ?_;refine Am ?_;intro yb ya;refine Z3 ?_;refine ya.o _ _ ⟨λ_ o u _=>by rw[ac],?_⟩;clear ya yb;refine Ai (i:=11) AH ?_;refine Am ?_;intro yb ya;refine Z3 ?_;refine ya.o _ _ ⟨A3 rfl,?_⟩;clear ya yb;refine Aw AH ⟨rfl,?_⟩
     have b9:=FC.addO (σ':=f1.put v (es.set 3 (sl e1 (Z b+1) (z++[my x.h.nt,O x.h.B,lw M x.h.A])))) (id':=e1) S (a:=x.h) ⟨M,rfl⟩ ew ct cu (λo u bg=>by
      rw[show∀(an:St) bl,(an.put v bl).C o=an.C o from λan bl=>by simp[St.put,bg],ad]) (λo u bg=>by
      rw[show∀(an:St) bl,(an.put v bl).ver o=an.ver o from λan bl=>by simp[St.put,bg],ac]) (by simp only[Ac];omega) (by simp only[Nc];omega) (λj hj bg=>by rw[Og];exact ff j hj bg) (by rw[Ak,cf.o])
     exact⟨e1,b++[x.h],_,Bq,N+1,b9.1,av.trans b9.2,HI.o,by simp only[AX,BQ,CQ];omega⟩
    rintro e s5 c1 ⟨rfl,K⟩;have K:V _:=K;refine X ?_
    first|exact⟨_,rfl,K.o⟩|exact K.o|exact⟨_,rfl⟩
  have cv:decide ((j:Int)<0)=false:=nk;have ed:0<p:=by
   rw[<-n.cnt,MK];exact⟨b0,AY bu,br⟩
  obtain⟨q,rfl⟩:∃q,p=q+1:=⟨p-1,L⟩;have ez:=IH q rfl;have cz:0<Z x.A:=by have:=(BA.1 bu).1;omega
  have cw:Hr c0 (Z A) (q+1)=1+Z A*Hr c0 (Z A) q:=rfl;have d2:V (N9 fz A mo x j b (Sp B) 0 b (Sp Bq)):=by rw[V,db.o];exact rM n.cl cz bt c2 hS
  have e6:=r.length A7 P.el;refine X ?_
  refine Ae (λf5 s bk=>∃(k a1 N':Nat) (G:oq) (aj:oh) (t:BK),f5=Z A-k/\k<=Z A/\s 0=ptr v 0/\s 3=ptr g.B 0/\s 5=Y j/\s 6=Y k/\FC bk v ida (Z A) cA fz mo a1 G aj t N'/\KW v (Dv d (Z b) B) (Dv a1 (Z G) t) g bk/\g.B<bk.B/\bk.C g.B=(ko x M id ai)/\N'+Z b<=N+1+Z G+k*Hr c0 (Z A) q/\(Z G:Int)<=mo+1/\V (N9 fz A mo x j b (Sp B) k G (Sp t)/\∀a∈G,DX a)) (Z A)
   ⟨0,d,N+1,b,z,Bq,L,L,AI,AI,AI,AG,ca,ah,L,az,L,c2,d2.o,f4⟩ ?_
  clear cv T ca bc az ah bv dm di dl dk dh cf d2 bq b3 g5 e0 e3 cj bw;rintro f5 s D ⟨k,a1,N',G,aj,t,rfl,hk,h0,h3,h5,h6,S,ah,cp,a8,eq,eu,bn⟩;have a3:=S.ob;have eh:=S.lo;have df:(C7 ida (Z A) cA fz mo a1 (Z G) aj t)[0]?=some (sl ida (Z A) cA):=rfl;have de:(C7 ida (Z A) cA fz mo a1 (Z G) aj t).head?=some (sl ida (Z A) cA):=rfl;have dd:=Jc (ida:=ida) (nA:=Z A) (cA:=cA) (fz:=fz) (mo:=mo) (ido:=a1) (nO:=Z G) (oc:=aj) S.bl;generalize bb:C7 ida (Z A) cA fz mo a1 (Z G) aj t=fo at a3 df de dd;clear bb;have ci:=ah.B;by_cases cq:k<Z A
  ·have a5:=AK cq;have cd:=AR cq;obtain⟨it,f6,hd⟩:=Ca P.el a5;generalize A[k]=bx at a5 cd hd;have ec:=(P.cl bx cd).2.2;have c8:=λg=>fV x _ j bx _ b0 b5 ⟨it,rfl⟩ au bu ec g;have HG:V (A[k]?=some bx):=a5;clear a5
   refine X ?_;refine A2 (Q:=λe s' f=>e= .normal/\s' 0=ptr v 0/\s' 3=ptr g.B 0/\s' 5=Y j/\s' 6=Y k/\W D f/\∃y R U F ok o7,s' 7=ptr o7 0/\s' 8=my ok/\r Bf y.A F/\NC x j bx y ok/\D.B<=o7/\o7<f.B/\f.C o7=(ko y R U F)) ?_ ?_
   ·refine Ar Ag (λ_=>True) [] [0,1,2,3,4,5,6,7,8] 7 (nv 16 511) AH (λ_ _ _ h=>by cases h.1) ?_;intro yb ya;refine Z3 ?_;refine ya.o _ ?_;clear ya yb;refine D8 (rs:=[9,13]) AH nk ?_;intro i hi;simp only[BD,EK,DZ]at hi;rcases hi with rfl|rfl
    ·refine Am ?_;intro yb ya;refine Z3 ?_;refine AF.mono (c8 _) ?_;rintro _ c1 ⟨y,fd,ok,rfl,b4,b7,c⟩;obtain⟨R,U,F,bi,rfl⟩:=b4.cells;unfold A4;refine Z3 ?_;refine ya.o _ _ ⟨Al c,?_⟩;clear ya yb;have a7:=c.B;refine Bu (i:=10) _ (tp [ag (ko y R U F),my ok]) rfl rfl rfl rfl rfl AH AH (λ_ _ _ h=>by cases h.1) (λo u _=>c.ver o u) ?_;refine Bu (i:=11) _ (ag (ko y R U F)) rfl rfl rfl rfl rfl AH AH (λ_ _ _ h=>by cases h.1) (λo u _=>c.ver o u) ?_;refine Bu (i:=12) _ (my ok) rfl rfl rfl rfl rfl AH AH (λ_ _ _ h=>by cases h.1) (λo u _=>c.ver o u) ?_;refine Ai (i:=13) AH ?_;refine Am ?_;intro yb ya;refine Z3 ?_;refine ya.o _ _ ⟨Al (c.new _),?_⟩;clear ya yb;refine Ai (i:=14) AH ?_;refine Am ?_;intro yb ya;refine Z3 ?_;refine ya.o _ _ ⟨Al ((c.new _).put L _),?_⟩;clear ya yb;refine Ai (i:=15) AH ?_;refine Am ?_;intro yb ya;refine Z3 ?_;refine ya.o _ _ ⟨Al ((c.new _).put L _),?_⟩;clear ya yb;refine Aw AH ⟨rfl,AI,AI,AI,AI,(c.new _).put L _,y,R,U,F,ok,c1.B,AG,AG,bi,b7,L,BJ,Ak⟩
    refine Am ?_;intro yb ya;refine Z3 ?_;refine ya.o _ _ ⟨Al ((W.refl _).new _),?_⟩;clear ya yb;refine Ai (i:=9) AH ?_;refine Am ?_;intro yb ya;refine Z3 ?_;refine AF.mono (c8 _) ?_;rintro _ c1 ⟨y,fd,ok,rfl,b4,b7,c⟩;obtain⟨R,U,F,bi,rfl⟩:=b4.cells;unfold A4;have ax:W D c1:=((W.refl D).new _).trans c;have a7:=c.B;have ch:=c.C D.B AM;rw[Ao]at ch;simp only[Aa]at a7;refine Z3 ?_;refine ya.o _ _ ⟨Al ax,?_⟩;clear ya yb;refine Bu (i:=10) _ (tp [ag (ko y R U F),my ok]) rfl rfl rfl rfl rfl AH AH (λ_ _ _ h=>by cases h.1) (λo u _=>ax.ver o u) ?_;refine Bu (i:=11) _ (ag (ko y R U F)) rfl rfl rfl rfl rfl AH AH (λ_ _ _ h=>by cases h.1) (λo u _=>ax.ver o u) ?_;refine Bu (i:=12) _ (my ok) rfl rfl rfl rfl rfl AH AH (λ_ _ _ h=>by cases h.1) (λo u _=>ax.ver o u) ?_;refine Ai (i:=14) AH ?_;refine Am ?_;intro yb ya;refine Z3 ?_;refine ya.o _ _ ⟨Al (ax.put (AU _) _),?_⟩;clear ya yb;refine Ai (i:=15) AH ?_;refine Am ?_;intro yb ya;refine Z3 ?_;refine ya.o _ _ ⟨Al (ax.put (AU _) _),?_⟩;clear ya yb;refine Aw AH ⟨rfl,AI,AI,AI,AI,ax.put (AU _) _,y,R,U,F,ok,D.B,AG,AG,bi,b7,L,by simp only[Ac];omega,Ak⟩
   rintro e s' c1 ⟨rfl,h0,h3,h5,h6,c,y,R,U,F,ok,o7,h7,h8,b4,b7,e8,e9,ef⟩;have a7:=c.B;have dw:=S.keep c;have av:=ah.trans (KW.ofKeep c);have cm:c1.C g.B=(ko x M id ai):=by rw[c.C _ cp,a8]
   obtain⟨d8,ee⟩:=b7;clear c8 a3 a8 S ah df de dd hd c;rcases ee with⟨rfl,b8⟩|⟨rfl,b8⟩
   ·obtain⟨dz,bz⟩:=n.step bu br (P.gnd bx cd) (P.cl bx cd) b8;have d9:AJ y (ko y R U F):=⟨[my y.h.nt,O y.h.B,lw R y.h.A],U,F,⟨R,rfl⟩,b4,rfl⟩;have er:=λg=>Kg y _ j d9 d8.1 g;have da:V (N9 fz A mo x j b (Sp B) k G (Sp t)):=bn.o.1;have d3:V (∀a∈G,DX a):=bn.o.2;have eg:k*Hr c0 (Z A) q+Hr c0 (Z A) q<=Z A*Hr c0 (Z A) q:=by
     rw[<-If];exact GW _ cq
    have ey:∀c',AJ (C8 y j) c'->∀g,FC g v ida (Z A) cA fz mo a1 G aj t N'->ni 202 [ptr v 0,ag c'] g λf6 bk=>Ul fz A cA ida mo c0 q (C8 y j) v a1 G t N' g bk:=λc' cx g hW=>ez (C8 y j) c' cx dz v a1 G aj t N' g hW L da.o.nd eu d3.o (by rw[bz];exact da.o.seen);clear bn
    repeat' first|refine Z1 ?_|refine Z8 λyb ya=>?_|refine Z4 ?_;clear ya yb|refine Z2 ?_ ?_<;>intro h ae<;>try exact Xp|refine Z6 ?_;intro e1 f1 ak am ad ab ac aa|(refine Z5 ?_;first|(refine Xi (er _) ?_;rintro _ _ ⟨c',rfl,cx,ax⟩;(have d6:=ax.B;have e4:=ey c' cx))|(refine Xi (e4 _ (dw.keep (Xs))) ?_;rintro _ _ ⟨fi,O2,fj,f2,N2,et,bp,c7,fb⟩))|refine Z3 ?_|exact Zt|apply ya.o;clear ya yb
    rename_i fp fk;have c6:=(av.trans (KW.ofKeep ax)).trans bp;have bg:g.B≠v:=L;have ea:fk.C g.B=(ko x M id ai):=by rw[bp.C _ L bg,ax.C _ L,cm]
    have d5:=bp.B;have HN:V (N9 fz A mo x j b (Sp B) (k+1) O2 (Sp f2)/\∀a∈O2,DX a):=⟨yC P.gnd n.cl.1 bu br da.o HG.o b8 c7 bz,ZL P dz d3.o c7⟩;have bh:N2+Z b<=N+1+Z O2+(k+1)*Hr c0 (Z A) q:=by rw[If];omega
    have fc:=c7.len;refine⟨Z A-(k+1),L,k+1,fi,N2,O2,fj,f2,?_⟩
    ((repeat' refine Zi ?_ ?_)<;>first|exact Xq|exact HN|exact et|exact c6|exact bh|exact Xs)
   have HN:V (N9 fz A mo x j b (Sp B) (k+1) G (Sp t)/\∀a∈G,DX a):=⟨yD bn.o.1 HG.o b8,bn.o.2⟩;have bh:N'+Z b<=N+1+Z G+(k+1)*Hr c0 (Z A) q:=by rw[If];omega
   clear b8;refine X ?_;refine⟨Z A-(k+1),L,k+1,a1,N',G,aj,t,?_⟩
   ((repeat' refine Zi ?_ ?_)<;>first|exact Xq|exact HN|exact dw|exact av|exact bh|exact Xs)
  have ej:k=Z A:=L;subst ej
  have K:V (Ul fz A cA ida mo c0 (q+1) x v d b B N g D):=
   ⟨a1,G,aj,t,N',S,ah,WC P.gnd n.cl bu br hS bn.o.1,by rw[cw];omega⟩
  clear bn S ah;refine X ?_
  first|exact⟨_,rfl,K.o⟩|exact K.o|exact⟨_,rfl⟩
structure KH (io:Nat)(σ σ':St):Prop where
 B:σ.B<=σ'.B
 C:∀o,o<σ.B->σ'.C o=σ.C o
 ver:∀o,o<σ.B->σ'.ver o=σ.ver o
 D:σ.D<=σ'.D
 top:∀k,k<σ.D->k+2≠io->σ'.top k=σ.top k
structure iO (fz:Bool)(A:oq)(mo:Int)(x:AB)(Oqx O':oq):Prop where
 ext:∃nw,O'=Oqx++nw/\∀h∈nw,U1 fz A x h/\h∉A
 nd:O'.Nodup
 len:(Z O':Int)<=mo+1
 done:(Z O':Int)<=mo->CM fz A O' x
def JL:BK:=replicate 4096 (1,[])
def XU (s):¬Sp JL s:=by
 rintro⟨x,a,b⟩;have:x=(1,[]):=by
  have:=AY a;exact (IN.1 this).2
 subst this;simp at b
def yL (fz A cA ida mo c0)(c:H3 A cA)(b:0<=mo)(a:mo<=900):∀p,OX fz A cA ida mo c0 p:=by
 intro p;induction p with
 |zero=>exact eK fz A cA ida mo c0 c b a 0 (λq h=>L)
 |succ p d=>exact eK fz A cA ida mo c0 c b a (p+1) (λq h=>by have:p=q:=L;subst this;exact d)
def FC.outs {b ow ida nA cA fz mo ido c oc B N}(h:FC b ow ida nA cA fz mo ido c oc B N):∃a:oh,b.C ow=a/\a[3]?=some (sl ido (Z c) oc)/\Z a=4100:=⟨_,h.ob,rfl,Jc h.bl⟩
def wJ {ida nA cA fz mo ido nO oc}:(((((OC.map cst1).set 0 (sl ida nA cA)).set 1 (my fz)).set 3 (sl ido nO oc)).set 2 (Y mo))=C7 ida nA cA fz mo ido nO oc JL:=by
 have e:OC.map cst1=H::my false::Y 0::H::replicate 4096 H:=by
  rw[OC];rw[EU,map_replicate];rfl
 rw[e];rw[C7,Q2,JL];rw[map_replicate];rfl
def ji (f){ido nO}(h:Live f ido nO):JB f (Dv ido nO JL):=by
 have b:∀x∈JL.map (λx:Nat×ol=>(x.1,Z x.2)),x=(1,0):=λx a=>by
  obtain⟨y,c,rfl⟩:=AN.1 a;rw[(IN.1 c).2];rfl
 refine⟨λx a=>?_,λi j x y a c d=>?_⟩;obtain rfl|a:=BD.1 a;exact h;rw[b x a];exact .inl ⟨rfl,rfl⟩;cases i with
 |zero=>
  cases j with
  |zero=>omega
  |succ j=>
   have:=b y (AY (i:=j) (by simpa[Dv]using c));subst this;by_cases e:x.1=1;exact .inl e;exact .inr e
 |succ i=>
  have:=b x (AY (i:=i) (by simpa[Dv]using a));subst this;exact .inl rfl
def dL {ido nO x}(h:x∈Dv ido nO JL):x.1=ido\/x.1=1:=by obtain rfl|h:=BD.1 h;exact .inl rfl;obtain⟨y,a,rfl⟩:=AN.1 h;rw[(IN.1 a).2];exact .inr rfl
def sA (fz A cA ida mo c0 p)(M:H3 A cA)(s:0<=mo)(q:mo<=900)(x c)(E:AJ x c)(S:CJ fz c0 p x)(v:Hr c0 (Z A) p+2002<=1000000000000)(b oc ido)(I:r Bf b oc)(u:∀a∈b,DX a)(t:b.Nodup)(m:(Z b:Int)<=mo+1)(j)(Q:Live j ido (Z b)):
  ni 169 [ag c,sl ida (Z A) cA,my fz,sl ido (Z b) oc,Y mo] j λa3 σ'=>∃d f g,a3=sl d (Z f) g/\r Bf f g/\Live σ' d (Z f)/\(d=ido\/d=1\/j.D+2<=d)/\KH ido j σ'/\iO fz A mo x b f:=by
 have D:=E;obtain⟨F,id,a0,a9,rfl⟩:=E.cells;unfold A4;unfold A4 at D
 have C:FC ((j.new (ko x F id a0)).new (((((OC.map cst1).set 0 (sl ida (Z A) cA)).set 1 (my fz)).set 3 (sl ido (Z b) oc)).set 2 (Y mo))) (j.B+1) ida (Z A) cA fz mo ido b oc JL 0:=
  ⟨by rw[Be AM AM];exact wJ,AM,by simp[JL],I,ji _ Q,λy l=>by rw[(IN.1 l).2];simp⟩
 have G:=yL fz A cA ida mo c0 M s q p x _ D S (j.B+1) ido b oc JL 0 _ C L t m u (λy _ _ U=>absurd U (XU _));clear C;refine Z9 25 [.tmp 10] func169 ?_;refine m0 ?_;intro yb ya;refine Xi (G) ?_;rintro _ a1 ⟨d,f,g,a7,a5,z,i,n,av⟩;(let⟨a4,a6,ap,ao⟩:=z.outs;have R:=i.B;simp only[Aa]at R);refine X ?_;have k:=z.rw'.1 (d,Z f) (by simp[Dv]);have B:d=ido\/d=1\/j.D+2<=d:=by
  obtain⟨y,l,e⟩|e|e:=i.mid (d,Z f) (by simp[Dv]);obtain h|h:=dL l;exact .inl (e.symm.trans h);exact .inr (.inl (e.symm.trans h));exact .inr (.inl e);exact .inr (.inr e)
 have T:KH ido j a1:=
  ⟨L,λo P=>by rw[i.C o AM L,Ah AM,Ah L],λo P=>by rw[i.ver o AM L];rfl,i.D,λa2 N a8=>i.top a2 N (λy l e=>by
   rcases dL l with h|h<;>omega)⟩
 have K:iO fz A mo x b f:=⟨n.ext,n.nd,n.len,n.done⟩;exact⟨_,rfl,d,f,g,rfl,z.oe,k,B,T,K⟩
def NN (fz:Bool)(l:n0)(b:oq)(C:AE->Prop):Prop:=(∀a∈b,C a)/\∀c:oq,(∀a∈c,C a)->(∀a∈b,a∈c)->∀x∈l,∀h,U1 fz c x h->C h
structure wE (fz:Bool)(l:n0)(giv:oq)(limit:Nat)(A:oq):Prop where
 gv:∀a∈giv,a∈A
 nd:A.Nodup
 len:Z A<=limit
 cl:∀x∈l,CM fz A [] x
 least:∀C,NN fz l giv C->∀a∈A,C a
def pD (fz:Bool)(l:n0)(c:oq)(b:Nat):Prop:=∀C,NN fz l c C->∃d:oq,d.Nodup/\b<Z d/\∀a∈d,C a
def iM (fz:Bool)(b:Nat)(x:AB):Prop:=∃c p,CJ fz c p x/\∀a,a<=b->Hr c a p+2002<=1000000000000
def J.ofLive {σ0 b σ' e a n d}(f:W σ0 b)(i:J σ0 b e n)(g:Live σ' a d)(c:a=e\/a=1\/b.D+2<=a):J σ0 σ' a d:=by obtain h|⟨k,l,e2,m,o⟩:=g;exact .inl h;refine .inr ⟨k,l,?_,e2,m,o⟩;obtain h|h|h:=c;obtain⟨j,-⟩|⟨s,p,q,-⟩:=i;omega;omega;omega;have:=f.D;omega
def W.kh {σ0 c σ' d n}(a:W σ0 c)(g:J σ0 c d n)(h:KH d c σ'):W σ0 σ':=
 ⟨BI a.B h.B,λo b=>(h.C o (BZ b a.B)).trans (a.C o b),λo b=>(h.ver o (BZ b a.B)).trans (a.ver o b),BI a.D h.D,λk f=>(h.top k (BZ f a.D) (λe=>by rcases g with⟨i,-⟩|⟨k',f1,f2,-⟩<;>omega)).trans (a.top k f)⟩
def J.kh {σ0 c σ'}{a b n m:Nat}(d:J σ0 c a n)(f:a=1\/b=1\/a≠b)(h:KH b c σ'):J σ0 σ' a n:=by obtain e|⟨k,i,j,g,l,o⟩:=d;exact .inl e;refine .inr ⟨k,i,j,BZ g h.D,?_,o⟩;rw[h.top k g L];exact l
def J.apart {σ0 e b c a n}(f:J σ0 e b n)(g:b=1\/c=1\/b≠c)(d:a=c\/a=1\/e.D+2<=a):b=1\/a=1\/b≠a:=by obtain rfl|h|h:=d;exact g;exact .inr (.inl h);obtain⟨i,-⟩|⟨k,j,l,m,-⟩:=f;exact .inl i;exact .inr (.inr L)
structure GD (fz:Bool)(l:n0)(giv:oq)(A:oq)(cA:oh):Prop where
 el:r Bf A cA
 gnd:∀a∈A,aI a
 cl:∀a∈A,DX a
 nd:A.Nodup
 gv:∀a∈giv,a∈A
 least:∀C,NN fz l giv C->∀a∈A,C a
structure GO (fz:Bool)(l:n0)(A:oq)(mo:Int)(i:Nat)(Oqx:oq)(oc:oh):Prop where
 el:r Bf Oqx oc
 cl:∀a∈Oqx,DX a
 nd:Oqx.Nodup
 new:∀h∈Oqx,h∉A/\∃x∈l,U1 fz A x h
 done:(Z Oqx:Int)<=mo->∀x∈l.take i,CM fz A Oqx x
def GO.step {fz l A cA mo i v j oc d x t p}(q:H3 A cA)(z:CJ fz t p x)(h:GO fz l A mo i v oc)(m:l[i]?=some x)(g:iO fz A mo x v j)(s:r Bf j d):GO fz l A mo (i+1) j d:=by
 let⟨u,e,f⟩:=g.ext;have o:=AY m;refine⟨s,λa c=>?_,g.nd,λa c=>?_,λk y n=>?_⟩;rw[e]at c;obtain b|b:=AW.1 c;exact h.cl a b;exact QR q z (f a b).1;rw[e]at c;obtain b|b:=AW.1 c;exact h.new a b;exact⟨(f a b).2,x,o,(f a b).1⟩;rw[AT,m]at n;obtain b|b:=AW.1 n;exact (h.done (by rw[e]at k;simp at k;omega) y b).mono λa c=>e▸GK _ c
 simp at b;subst b;exact g.done k
def GD.A {fz l a A cA}(h:GD fz l a A cA)(b:Z A<=1000):H3 A cA:=⟨h.el,b,h.gnd,h.cl⟩
def GD.grow {fz l j A y cA oc o mo i f}(h:GD fz l j A cA)(u:Z A<=1000)(q:∀x∈l,iM fz f x)(g:GO fz l A mo i y oc)(t:r Bf (A++y) o):GD fz l j (A++y) o:=by refine⟨t,λa d=>?_,λa d=>?_,?_,λa d=>GK _ (h.gv a d),λC m a d=>?_⟩;obtain c|c:=AW.1 d;exact h.gnd a c;obtain⟨-,x,k,n⟩:=g.new a c;obtain⟨v,p,z,-⟩:=q x k;exact XJ h.gnd z.saf n;obtain c|c:=AW.1 d;exact h.cl a c;exact g.cl a c;rw[IP];exact⟨h.nd,g.nd,λa d b s e=>(g.new b s).1 (e ▸ d)⟩;obtain c|c:=AW.1 d;exact h.least C m a c;obtain⟨-,x,k,n⟩:=g.new a c;exact m.2 A (h.least C m) h.gv x k a n
def RR (fz:Bool)(l:n0)(b:oq)(a:Nat)(e:AV):Prop:=(∃A c d,e=tp [sl c (Z A) d,my true]/\H3 A d/\wE fz l b a A)\/(e=tp [H,my false]/\pD fz l b a)
def fR (fz l cs ac p cg an g)(hl:r AJ l cs)(cz:Z l<=1000)(hg:H3 p cg)(b6:g<=900)(c5:Z p<=g)(hr:∀x∈l,iM fz g x)(c):
  ni 116 [sl ac (Z l) cs,sl an (Z p) cg,my fz,Y g] c λv σ'=>RR fz l p g v/\W c σ':=by
 have c6:=r.length Cf hl;have b9:=r.length A7 hg.el;refine wl func116 ?_;refine X ?_
 refine Ae (λm s σ'=>∃(i f:Nat) (A:oq) (d:oh),m=Z p-i/\i<=Z p/\s 0=sl ac (Z l) cs/\s 1=sl an (Z p) cg/\s 2=my fz/\s 3=Y g/\s 10=sl f (Z A) d/\s 11=Y i/\W c σ'/\J c σ' f (Z A)/\Z d=Z A*3/\Z A<=i/\V (r Bf A d/\A.Nodup/\∀a,a∈A↔a∈p.take i)) (Z p)
  ⟨0,1,[],[],L,L,by simp[upd,AL],by simp[upd,AL],by simp[upd,AL],by simp[upd,AL],AG,AG,W.refl _,J.nil _ _,rfl,nk,rfl,GN,nk⟩ ?_
 rintro m s σ' ⟨i,f,A,d,rfl,hi,T,P,E,F,U,cv,n,u,a3,ct,z⟩;by_cases ad:i<Z p
 ·obtain⟨w,o⟩:=gq ad;have a4:=(AY o);obtain⟨B,v,hd⟩:=Ca hg.el o;have cr:∀a∈A,Z a.A<=1000:=λa t=>(hg.cl a (JI ((z.o.2.2 a).1 t))).2.2;have C:=λc=>Gt A d f w _ z.o.1 ⟨B,rfl⟩ L cr c;have bz:V (p.take (i+1)=p.take i++[w]):=by rw[V,AT,o,BN]
  clear o;by_cases av:w∈A
  ·have C:∀c,ni 154 [sl f (Z A) d,ag [my w.nt,O w.B,lw B w.A]] c λv σ'=>v=my true/\W c σ':=λc=>(C c).mono λv σ' ⟨b,P,E,F⟩=>⟨by rw[P,E.2 av],F⟩
   have a2:V (r Bf A d/\A.Nodup/\∀a,a∈A↔a∈p.take (i+1)):=⟨z.o.1,z.o.2.1,λa=>by
    rw[bz.o,AW,<-z.o.2.2 a,FY]
    exact⟨.inl,λh=>h.elim id λaj=>aj ▸ av⟩⟩
   clear av z;refine mt C ?_;rintro yb ya _ _ ⟨rfl,N⟩;refine X ?_;refine⟨Z p-(i+1),L,i+1,f,A,d,?_⟩;exact ng a2 (n.trans N) (J.keep u N)
  have C:∀c,ni 154 [sl f (Z A) d,ag [my w.nt,O w.B,lw B w.A]] c λv σ'=>v=my false/\W c σ':=λc=>(C c).mono λv σ' ⟨b,P,E,F⟩=>⟨by
   cases b
   ·exact P
   exact absurd (E.1 rfl) av,F⟩
  have a2:V (r Bf (A++[w]) (d++[my w.nt,O w.B,lw B w.A])/\(A++[w]).Nodup/\∀a,a∈A++[w]↔a∈p.take (i+1)):=⟨r.append z.o.1 (r.single ⟨B,rfl⟩),by
    rw[IP];exact⟨z.o.2.1,nk,λa t b hb aj=>av (by rw[FY]at hb;rw[<-hb,<-aj];exact t)⟩,λa=>by
   rw[bz.o,AW,AW,<-z.o.2.2 a]⟩
  clear av z;refine mt C ?_;rintro yb ya _ _ ⟨rfl,N⟩;have cn:=n.trans N;have cd:=J.keep u N;refine m5 ?_;intro yb ya;intro ai bk ah ak af ab ae aa;refine X ?_;exact⟨Z p-(i+1),L,i+1,ai,A++[w],d++[my w.nt,O w.B,lw B w.A],oj⟩
 obtain rfl:i=Z p:=L;have b1:V (GD fz l p A d):=by
  let⟨e1,e2,e3⟩:=z.o;rw[AS]at e3;exact⟨e1,λa t=>hg.gnd a ((e3 a).1 t),λa t=>hg.cl a ((e3 a).1 t),e2,λa t=>(e3 a).2 t,λam hC a t=>hC.1 a ((e3 a).1 t)⟩
 have a7:Z A<=g:=L;clear z ct hi;refine X ?_
 refine Ae (λm s σ'=>∃(v f:Nat) (A:oq) (d:oh),m=g+1-v/\v<=g+1/\s 0=sl ac (Z l) cs/\s 2=my fz/\s 3=Y g/\s 10=sl f (Z A) d/\s 12=Y v/\W c σ'/\J c σ' f (Z A)/\Z d=Z A*3/\Z A<=g/\v<=Z A/\V (GD fz l p A d)) (g+1)
  ⟨0,f,A,d,L,L,AI,AI,AI,AI,AG,n,u,a3,a7,L,b1.o⟩ ?_
 clear T P E F U cv n u a3 b1 a7 ad;rintro m s bt ⟨v,f,A,d,rfl,cw,T,E,F,U,a8,n,u,a3,a7,cx,hS⟩;have bm:v<=g:=L;have bu:H3 A d:=hS.o.A L;let⟨y,bb⟩:∃y:Int,y=(g:Int)-(Z A:Int):=⟨_,rfl⟩;have ba:0<=y:=L;have a9:y<=900:=L;have db:V _:=bb;have b3:(g:Int)-(Z A:Int)=y:=bb.symm;have cy:y<=(g:Int)-(Z A:Int)/\(g:Int)-(Z A:Int)<=y:=L;clear bb;refine X ?_
 refine Ae (λm s σ'=>∃(i M:Nat) (k:oq) (oc:oh),m=Z l-i/\i<=Z l/\s 0=sl ac (Z l) cs/\s 2=my fz/\s 3=Y g/\s 10=sl f (Z A) d/\s 12=Y v/\s 13=Y (Z A)/\s 14=sl M (Z k) oc/\s 15=Y i/\W c σ'/\J c σ' f (Z A)/\J c σ' M (Z k)/\(f=1\/M=1\/f≠M)/\(Z k:Int)<=y+1/\V (GO fz l A y i k oc)) (Z l)
  ⟨0,1,[],[],L,L,AI,AI,AI,AI,AI,AI,AG,AG,n,u,J.nil _ _,.inr (.inl rfl),by simp;omega,rfl,nk,GN,nk,λ_ x hx=>by simp at hx⟩ ?_
 clear T E F U a8 n u;rintro m s bd ⟨i,M,k,oc,rfl,hi,T,E,F,U,a8,bw,bv,cu,n,u,a5,bg,ce,I⟩;by_cases ad:i<Z l
 ·obtain⟨x,o⟩:=gq ad;obtain⟨ih,id,b,rr,hb,hd⟩:=Cv hl o;have bh:=hr _ (AY o);let⟨c0,b4,bq,bo⟩:=bh;have ao:=bo (Z A) a7;have cq:=λc (hL:Live c M (Z k))=>sA fz A d f y c0 b4 bu ba a9 x (ko x ih id b) ⟨[my x.h.nt,O x.h.B,lw ih x.h.A],id,b,⟨ih,rfl⟩,hb,rfl⟩ bq ao k oc M I.o.el I.o.cl I.o.nd ce c hL;have ci:Live bd M (Z k):=by
   obtain h|⟨ax,f1,f2,f3,f4,f5⟩:=a5
   ·exact .inl h
   exact .inr ⟨ax,f1,f3,f4,f5⟩
  have b0:V (∀S a1,iO fz A y x k S->r Bf S a1->GO fz l A y (i+1) S a1):=λS a1 au he=>GO.step bu bq I.o o au he;clear o bo;refine m0 ?_;intro yb ya;refine Xi (cq _ ci) ?_;rintro _ _ ⟨aw,S,a1,rfl,br,cm,az,a0,ap⟩;have a2:V _:=b0.o S a1 ap br;have ay:=ap.len;clear b0 br ap;refine X ?_;rename_i bj;have cp:=W.kh n a5 a0;have ch:=J.kh (m:=0) u bg a0;have cf:=J.ofLive n a5 cm az;have bf:=J.apart u bg az;refine⟨Z l-(i+1),L,i+1,aw,S,a1,?_⟩
  ((repeat' refine Zi ?_ ?_)<;>first|exact Xq|exact a2|exact cp|exact ch|exact cf|exact bf|exact ay|exact Xs)
 obtain rfl:i=Z l:=L;have b5:=r.length A7 I.o.el;have bp:Z A+Z k<=g+1:=L;refine X ?_
 refine Ae (λm s σ'=>∃(q j:Nat) (e:oq) (G:oh),m=Z k-q/\q<=Z k/\s 0=sl ac (Z l) cs/\s 2=my fz/\s 3=Y g/\s 10=sl j (Z e) G/\s 12=Y v/\s 13=Y (Z A)/\s 14=sl M (Z k) oc/\s 16=Y q/\W c σ'/\J c σ' j (Z e)/\Z G=Z e*3/\Z e<=Z A+q/\Z A+q<=Z e/\V (e=A++k.take q/\r Bf e G)) (Z k)
  ⟨0,f,A,d,L,L,AI,AI,AI,AI,AI,AI,AI,AG,n,u,a3,L,L,nk,hS.o.el⟩ ?_
 clear T E F U a8 bw bv cu n u a5 bg;rintro m s bj ⟨q,j,e,G,rfl,hq,T,E,F,U,a8,bw,bv,da,n,u,c7,c9,c8,Q⟩;by_cases bc:q<Z k
 ·obtain⟨w,o⟩:=gq bc;have a4:=(AY o);obtain⟨B,rr,hd⟩:=Ca I.o.el o;have cj:∀a∈e,Z a.A<=1000:=λa t=>by
   rw[Q.o.1]at t;obtain D|D:=AW.1 t
   ·exact (hS.o.cl a D).2.2
   exact (I.o.cl a (JI D)).2.2
  have bi:w∉e:=by
   rw[Q.o.1];intro h;obtain D|D:=AW.1 h
   ·exact (I.o.new w a4).1 D
   let⟨bl,hz⟩:=CL D;have b2:=(BA.1 hz).1;rw[CN]at b2;rw[GF,if_pos L]at hz;have:=(getElem?_inj bc I.o.nd).1 (o.trans hz.symm);omega
  have C:=λc=>Gt e G j w _ Q.o.2 ⟨B,rfl⟩ L cj c
  have C:∀c,ni 154 [sl j (Z e) G,ag [my w.nt,O w.B,lw B w.A]] c λv σ'=>v=my false/\W c σ':=λc=>(C c).mono λv σ' ⟨b,P,E,F⟩=>⟨by
   cases b
   ·exact P
   exact absurd (E.1 rfl) bi,F⟩
  have b8:(Z e:Int)<=(g:Int):=L;have b7:decide ((Z e:Int)<=(g:Int)):=nn b8;have a2:V (e++[w]=A++k.take (q+1)/\r Bf (e++[w]) (G++[my w.nt,O w.B,lw B w.A])):=⟨by rw[AT,o,Q.o.1];simp,r.append Q.o.2 (r.single ⟨B,rfl⟩)⟩;clear o bi;refine mt C ?_;rintro yb ya _ _ ⟨rfl,N⟩;have cn:=n.trans N;have cd:=J.keep u N;refine m5 ?_;intro yb ya;intro ai bk ah ak af ab ae aa;refine X ?_;exact⟨Z k-(q+1),L,q+1,ai,e++[w],G++[my w.nt,O w.B,lw B w.A],oj⟩
 obtain rfl:q=Z k:=L;have K:e=A++k:=by have:=Q.o.1;rw[AS]at this;exact this
 have R:V (GD fz l p e G):=by
  rw[K];exact hS.o.grow L hr I.o (by rw[<-K];exact Q.o.2)
 by_cases be:g<Z e
 ·have cc:decide ((Z e:Int)>(g:Int)):=by simp;omega
  have cb:decide ((g:Int)<(Z e:Int)):=by simp;omega
  have HR:V (pD fz l p g):=λam hC=>⟨e,R.o.nd,be,R.o.least am hC⟩;clear K;refine X ?_
  exact⟨_,rfl,.inr ⟨rfl,HR.o⟩⟩
 have cc:decide ((Z e:Int)>(g:Int))=false:=by simp;omega
 have cb:decide ((g:Int)<(Z e:Int))=false:=by simp;omega
 by_cases hz:Z k=0
 ·have a6:k=[]:=GG hz;have he:((Z e:Int)==(Z A:Int)):=by rw[K,a6];simp
  have HR:V (RR fz l p g (tp [sl j (Z e) G,my true])):=.inl ⟨e,j,G,rfl,R.o.A L,R.o.gv,R.o.nd,L,λx hx h hs=>by
   have ca:=I.o.done (by rw[hz];omega) x (by rw[AS];exact hx);have ck:e=A:=by rw[K,a6,EJ]
   rw[ck]at hs⊢;obtain D|D:=ca h hs
   ·exact .inl D
   rw[a6]at D;exact .inr D,R.o.least⟩
  clear K a6;refine X ?_
  exact⟨_,rfl,HR.o⟩
 have he:((Z e:Int)==(Z A:Int))=false:=by rw[K];simp;omega
 have bn:Z A+1<=Z e:=by rw[K];simp;omega
 clear K;refine X ?_;refine⟨g+1-(v+1),L,v+1,j,e,G,?_⟩;exact m9 R
def Hn (t:Tx):Tx:=if Ab t=true then 35::t else t
def Cw (a:AE):AE:=⟨a.nt,a.B,a.A.map Hn⟩
def Rl (a m)(Q:Z a.A<=1000)(D:∀t∈a.A,Z t<=1000)(z):ni 158 [ag [my a.nt,O a.B,lw m a.A]] z λI b=>∃i,I=ag [my a.nt,O a.B,sl i (Z a.A) ((Cw a).A.map O)]/\W z b:=by
 have U:({data:=#[35]}:ByteArray)=bs [35]:=rfl;refine wl func158 ?_;refine mu ?_
 refine wn [1,2,3] 4 (Z a.A) (λi s b=>∃(g:Nat) (d:oh),W z b/\z.B+2<b.B/\b.C z.B=[my a.nt,O a.B,lw m a.A]/\b.C (z.B+1)=[my false,O [],H]/\b.C (z.B+2)=[my a.nt,O a.B,sl g i d]/\J z b g i/\Z d=i*1/\V (d=((a.A.take i).map Hn).map O)) ⟨1,[],Xs,BJ,?_,?_,?_,J.nil _ _,nk,by simp[V]⟩ ?_
 ·rw[Aj L,Ah AM,Ah AM,Ao]
 ·rw[Aj L,Ah AM,Be AM AM]
 ·rw[Ak]
 rintro i s b _ _ _ ⟨g,d,v,T,N,R,M,K,S,e⟩;have P:=v.B;by_cases p:i<Z a.A
 ·have q:=AK p;have E:=A1 p;have F:=D _ (AR p);generalize a.A[i]=u at E q F;have j:V (((a.A.take (i+1)).map Hn).map O=((a.A.take i).map Hn).map O++[O (Hn u)]):=by
   rw[V,AT,q];simp
  clear q;have k:=λz=>Cg u z;cases l:Ab u with
  |true=>
   rw[l]at k;have f:Hn u=35::u:=by unfold Hn;rw[if_pos l]
   rw[f]at j;clear f
   repeat' first|refine Z1 ?_|refine Z8 λyb ya=>?_|refine Z4 ?_;clear ya yb|refine Z2 ?_ ?_<;>intro h x<;>try exact Xp|refine Z6 ?_;intro c B o n y C A G|refine Z5 ?_;refine Xi (k _) ?_;rintro _ _ ⟨rfl,rfl⟩|refine Z7 ?_|exact Zt|apply ya.o;clear ya yb
   refine⟨c,d++[O (35::u)],?_⟩
   ((repeat' refine Zi ?_ ?_)<;>first|exact Xq|exact (n.put L _)|exact (J.put o _ _)|exact (by rw[V,j.o,e.o])|exact Xs)
  |false=>
   rw[l]at k;have f:Hn u=u:=by unfold Hn;rw[if_neg (by simp[l])]
   rw[f]at j;clear f
   repeat' first|refine Z1 ?_|refine Z8 λyb ya=>?_|refine Z4 ?_;clear ya yb|refine Z2 ?_ ?_<;>intro h x<;>try exact Xp|refine Z6 ?_;intro c B o n y C A G|refine Z5 ?_;refine Xi (k _) ?_;rintro _ _ ⟨rfl,rfl⟩|refine Z7 ?_|exact Zt|apply ya.o;clear ya yb
   refine⟨c,d++[O u],?_⟩
   ((repeat' refine Zi ?_ ?_)<;>first|exact Xq|exact (n.put L _)|exact (J.put o _ _)|exact (by rw[V,j.o,e.o])|exact Xs)
 obtain rfl:i=Z a.A:=L;have e:=e.o;rw[AS]at e;subst e;refine mu ?_;exact⟨_,rfl,g,rfl,v.put L _⟩
def oth (a:n0)(n i:Nat):n0:=((a.take i).eraseIdx n).filter λy=>!y.o
def mR {a n i y}(h:a[i]?=some y):oth a n (i+1)=oth a n i++(if i=n\/y.o=true then []else [y]):=by
 have f:=(BA.1 h).1;have d:Z (a.take i)=i:=by rw[CN];omega
 unfold oth;rw[AT,h,BN];by_cases b:i=n;subst b;rw[eraseIdx_append_of_length_le L,d,GX,if_pos (.inl rfl),LG (l:=a.take i) L];simp;have:(a.take i++[y]).eraseIdx n=(a.take i).eraseIdx n++[y]:=by obtain e|e:=Nat.lt_or_gt_of_ne b;rw[eraseIdx_append_of_length_le L,LG (l:=a.take i) L,LG (l:=[y]) (by simp;omega)];rw[eraseIdx_append_of_lt_length L]
 rw[this,IR];cases c:y.o
 ·rw[if_neg (by simp[b])];simp[c]
 rw[if_pos (.inr rfl)];simp[c]
def E8 {a n i y}(h:y∈oth a n i):y∈a/\y.o=false:=by rw[oth]at h;rw[BP]at h;exact⟨JI (EE h.1),nn h.2⟩
def Qu (a:n0)(n:Nat)(x:AB)(b:Bool):Prop:=(∃A,wE true (oth a n (Z a)) (x.A.map Cw) 200 A/\(b=true↔Cw x.h∈A))\/(pD true (oth a n (Z a)) (x.A.map Cw) 200/\b=false)
def YJ (a):aI (Cw a):=λt b=>by obtain⟨u,-,rfl⟩:=AN.1 b;rw[Hn];split;rfl;rename_i h;simpa using h
def jo {a}(h:DX a)(i:∀t∈a.A,Ab t->Z t<=999):DX (Cw a):=by refine⟨h.1,λt g=>?_,by show Z (a.A.map _)<=1000;rw[BV];exact h.2.2⟩;obtain⟨u,e,rfl⟩:=AN.1 g;have d:=h.2.1 u e;rw[Hn];split;rename_i f;refine⟨λb c=>?_,by simp;have:=i u e f;omega⟩;obtain rfl|c:=BD.1 c;decide;exact d.1 b c;exact d
def aO (e cs)(B n:Nat)(x)(hl:r AJ e cs)(az:Z e<=1000)(hx:e[n]?=some x)(ay:Z x.A<=200)(hh:DX x.h)(hb:∀a∈x.A,DX a/\∀t∈a.A,Ab t->Z t<=999)(hr:∀y∈e,y.o=false->iM true 200 y)(z):
  ni 103 [sl B (Z e) cs,Y n] z λQ d=>∃b,Q=my b/\Qu e n x b/\W z d:=by
 have bn:=r.length Cf hl;have bm:=(BA.1 hx).1;obtain⟨ih,id,b,Q,a4,hd⟩:=Cv hl hx;have bp:=r.length A7 a4;refine wl func103 ?_;refine mu ?_
 refine wn [0,1] 6 (Z x.A) (λi s d=>∃(G:Nat) (g:oh),s 5=sl G i g/\W z d/\J z d G i/\Z g=i*3/\V (r Bf ((x.A.take i).map Cw) g)) ⟨1,[],AG,W.refl _,J.nil _ _,rfl,by simp[V,r]⟩ ?_
 rintro i s d hi ⟨h0,N⟩ h6 ⟨G,g,h5,E,a2,a7,M⟩;by_cases K:i<Z x.A
 ·obtain⟨w,k⟩:=gq K;obtain⟨ia,r2,av⟩:=Ca a4 k;obtain⟨ao,a8⟩:=hb _ (AY k);have be:=λz=>Rl w ia ao.2.2 (λt ah=>(ao.2.1 t ah).2) z;have HG:V ((x.A.take (i+1)).map Cw=(x.A.take i).map Cw++[Cw w]):=by
   rw[V,AT,k];simp
  clear k
  repeat' first|refine Z1 ?_|refine Z8 λyb ya=>?_|refine Z4 ?_;clear ya yb|refine Z2 ?_ ?_<;>intro h ad<;>try exact Xp|refine Z6 ?_;intro l zn ai ak af ab ae aa|refine Z5 ?_;refine Xi (be _) ?_;rintro _ _ ⟨p,rfl,R⟩;(have bu:=E.trans R;have bq:=J.keep a2 R)|refine Z7 ?_|exact Zt|apply ya.o;clear ya yb
  have o:V (r Bf ((x.A.take (i+1)).map Cw) (g++[my w.nt,O w.B,sl p (Z w.A) ((Cw w).A.map O)])):=by
   rw[V,HG.o];exact r.append M.o (r.single ⟨p,by simp[Cw]⟩)
  refine⟨l,g++[my w.nt,O w.B,sl p (Z w.A) ((Cw w).A.map O)],?_⟩;exact m9 o
 obtain rfl:i=Z x.A:=L;rw[AS]at M;have bg:V (H3 (x.A.map Cw) g):=⟨M.o,by simp;omega,λa S=>by obtain⟨y,-,rfl⟩:=AN.1 S;exact YJ y,λa S=>by obtain⟨y,F,rfl⟩:=AN.1 S;exact jo (hb y F).1 (hb y F).2⟩;clear M;refine mu ?_
 refine Ae (λap s d=>∃(q v:Nat) (m:n0) (f:oh),ap=Z e-q/\q<=Z e/\s 0=sl B (Z e) cs/\s 1=Y n/\s 5=sl G (Z x.A) g/\s 7=sl v (Z m) f/\s 8=Y q/\W z d/\J z d v (Z m)/\Z f=Z m*5/\Z m<=q/\V (m=oth e n q/\r AJ m f)) (Z e)
  ⟨0,1,[],[],L,L,AI,AI,AI,AG,AG,E,J.nil _ _,rfl,nk,by simp[oth],rfl⟩ ?_
 clear h0 N h5 h6 E a2 a7 K hi;rintro ap s z2 ⟨q,v,m,f,rfl,hq,h0,N,h5,h7,h8,E,a2,bi,br,u⟩;by_cases K:q<Z e
 ·obtain⟨y,k⟩:=gq K;obtain⟨T,am,jb,r2,a0,av⟩:=Cv hl k;have C:V _:=mR (n:=n) k;clear k;by_cases D:q=n
  ·have ba:((q:Int) !=(n:Int))=false:=ns D
   have o:V (m=oth e n (q+1)/\r AJ m f):=⟨by rw[C.o,if_pos (.inl D),EJ];exact u.o.1,u.o.2⟩;clear D C;refine mu ?_;refine⟨Z e-(q+1),L,q+1,v,m,f,?_⟩;exact m9 o
  have ba:((q:Int) !=(n:Int)):=by simp;omega
  cases aj:y.o
  ·have o:V (m++[y]=oth e n (q+1)/\r AJ (m++[y]) (f++[my y.o,my y.h.nt,O y.h.B,sl T (Z y.h.A) (y.h.A.map O),sl am (Z y.A) jb])):=⟨by rw[C.o,if_neg (by simp[D,aj]),u.o.1],r.append u.o.2 (r.single ⟨[my y.h.nt,O y.h.B,sl T (Z y.h.A) (y.h.A.map O)],am,jb,⟨T,rfl⟩,a0,rfl⟩)⟩;rw[aj]at o;clear D C
   repeat' first|refine Z1 ?_|refine Z8 λyb ya=>?_|refine Z4 ?_;clear ya yb|refine Z2 ?_ ?_<;>intro h ad<;>try exact Xp|refine Z6 ?_;intro l zn ai ak af ab ae aa|refine Z7 ?_|exact Zt|apply ya.o;clear ya yb
   refine⟨Z e-(q+1),L,q+1,l,m++[y],f++[my false,my y.h.nt,O y.h.B,sl T (Z y.h.A) (y.h.A.map O),sl am (Z y.A) jb],?_⟩
   ((repeat' refine Zi ?_ ?_)<;>first|exact Xq|exact o|exact (by rw[AX];exact ai)|exact Xs)
  have o:V (m=oth e n (q+1)/\r AJ m f):=⟨by rw[C.o,if_pos (.inr aj),EJ];exact u.o.1,u.o.2⟩;clear D C;refine mu ?_;refine⟨Z e-(q+1),L,q+1,v,m,f,?_⟩;exact m9 o
 obtain rfl:q=Z e:=L;let⟨a1,a5⟩:=u.o;have a9:=λz=>fR true m f v (x.A.map Cw) g G 200 a5 L bg.o L (by simp;omega) (λy F=>by rw[a1]at F;exact hr y (E8 F).1 (E8 F).2) z;rw[BV]at a9;have bf:=λz=>Rl x.h ih hh.2.2 (λt ah=>(hh.2.1 t ah).2) z;have a6:V _:=a1;have ax:∀z,ni 116 [sl v (Z m) f,sl G (Z x.A) g,my true,Y 200] z λQ d=>∃A c j ok,Q=tp [sl c (Z A) j,my ok]/\((ok/\H3 A j/\wE true m (x.A.map Cw) 200 A)\/(ok=false/\A=[]/\pD true m (x.A.map Cw) 200))/\W z d:=λz=>(a9 z).mono λQ d ⟨N,h2⟩=>by
  obtain⟨A,c,j,an,ac,h4⟩|⟨an,ac⟩:=N
  ·exact⟨A,c,j,true,an,.inl ⟨rfl,ac,h4⟩,h2⟩
  exact⟨[],1,[],false,an,.inr ⟨rfl,rfl,ac⟩,h2⟩
 clear a1 a5 a9 u;have aw:∀A j c,H3 A j->∀p z,ni 154 [sl c (Z A) j,ag [my x.h.nt,O x.h.B,sl p (Z x.h.A) ((Cw x.h).A.map O)]] z λQ d=>∃b,Q=my b/\(b↔Cw x.h∈A)/\W z d:=λA j c I p z=>Gt A j c (Cw x.h) _ I.el ⟨p,by simp[Cw]⟩ I.len (λa S=>(I.cl a S).2.2) z
 repeat' first|refine Z1 ?_|refine Z8 λyb ya=>?_|refine Z4 ?_;clear ya yb|refine Z2 ?_ ?_<;>intro h ad<;>try exact Xp|refine Z6 ?_;intro l zn ai ak af ab ae aa|(refine Z5 ?_;first|(refine Xi (ax _) ?_;rintro _ _ ⟨A,c,j,ok,rfl,au,R⟩;(rcases au with⟨rfl,I,P⟩|⟨rfl,rfl,P⟩<;>have HS:V _:=P<;>clear P))|(refine Xi (bf _) ?_;rintro _ _ ⟨p,rfl,bd⟩)|(refine Xi (aw _ _ _ I _ _) ?_;rintro _ _ ⟨bo,rfl,a3,bc⟩;(have bh:V _:=a3;clear a3)))|refine Z7 ?_|exact Zt|apply ya.o;clear ya yb
 ·have U:Qu e n x bo:=.inl ⟨A,by rw[<-a6.o];exact HS.o,bh.o⟩;exact⟨_,rfl,bo,rfl,U,((E.trans R).trans bd).trans bc⟩
 have U:Qu e n x false:=.inr ⟨by rw[<-a6.o];exact HS.o,rfl⟩;exact⟨_,rfl,false,rfl,U,E.trans R⟩
def qN {t}(h:(Av t).1=0):∀x∈Bl t,Db x:=by
 have e:∀i,i<Z (Bl t)->Dp (Bl t) i=false:=by
  rw[Av]at h;split at h;simp at h;split at h;simp at h;rw[Co]at h;split at h;simp at h;split at h;simp at h;rename_i d;exact Jo d
 intro x c;let⟨i,b⟩:=CL c;have a:=e i (BA.1 b).1;rw[Dp]at a;rw[b]at a;simpa using a
def oH {p}(h:Jy p)(c:Z p<=1000):Clean p:=⟨λb a=>by
 have:=h.2 b a
 refine⟨?_,?_,?_⟩<;>(rintro rfl;revert this;decide),c⟩
def sN {p}(h:Mm p)(c:Z p<=1000):Clean p:=⟨λb a=>by
 have:=h.2 b a
 refine⟨?_,?_,?_⟩<;>(rintro rfl;revert this;decide),c⟩
def vU {a}(h:En a)(b:short a):DX a:=⟨oH h.1 b.1,λt c=>sN (h.2.2.2 t c) (b.2.2 t c),b.2.1⟩
def sM {a p}(b:a<=200)(e:p<=5):Hr 0 a p<=10000000000:=by
 have d:∀p,Hr 0 a p<=Hr 0 200 p:=by
  intro p;induction p with
  |zero=>exact AU _
  |succ p c=>exact JJ (Nat.mul_le_mul b c) _
 apply BI (d p);have:p=0\/p=1\/p=2\/p=3\/p=4\/p=5:=L;rcases this with rfl|rfl|rfl|rfl|rfl|rfl<;>decide
structure FG (x:AB):Prop where
 w:Dc x
 sh:x.short
 va:∀a∈Af x,VA a
 dt:∀a∈Af x,∀w∈a.A,DT w
 safe:Db x
def P4 {t}(h:(Av t).1=0):∀x∈Bl t,FG x:=by let⟨c,l,j,b⟩:=H9 h;let⟨g,d,i,f⟩:=Ep L b;intro x a;have e:=a;rw[d]at a;exact⟨f x a,T8 L b x a,Td 16 t l j b x a,Lx (T:=DT) mK 16 t l j b x a,qN h x e⟩
def FG.cl {x}(h:FG x)(b:x.o=false):iQ x:=
 ⟨b,vU ((h.w.2.2 b).1) h.sh.1,λa c=>vU ((h.w.2.2 b).2.2.2 a c) (h.sh.2 a c)⟩
def FG.rule {x}(h:FG x)(b:x.o=false):iM true 200 x:=by have k:=(h.w.2.2 b).2.2.1;refine⟨0,x.A.countP (Pt true),⟨h.cl b,L,λv l d=>?_,rfl,.inr λa _=>rfl⟩,λa e=>?_⟩;obtain d|⟨a,-,m,-⟩:=d;have c:=h.safe;rw[Db]at c;simp only[FJ,EV]at c;have i:=c x.h (by simp[Af,b]);rw[zI]at i;simp only[JE,EV]at i;have f:bC x v=false:=nn (i v d);rw[bC]at f;rw[l,FV]at f;have g:Ma x v:=nn f;rw[Ma]at g;simp only[CU,BM,DO]at g;obtain⟨a,e,u,j,-,rfl⟩:=g;exact⟨a,e,rfl,j⟩;cases m;have:=sM (a:=a) (p:=x.A.countP (Pt true)) e (BI countP_le_length k);omega
def FG.var {x}(h:FG x){a}(f:a∈Af x):∀t∈a.A,Ab t->Z t<=999:=λt e g=>by
 obtain⟨b,rfl,-⟩|⟨i,j⟩:=h.va a f t e;simp;cases t with
 |nil=>cases i rfl
 |cons b k=>
  have d:=j b nk;have c:Bs b.toNat:=g;rw[A6]at d;rw[Bs]at c;simp at d c;omega
def ZN {b c:UInt8}:((b.toNat:Int)==(c.toNat:Int))=decide (b=c):=by by_cases h:b=c;subst h;simp;rw[KF h];have:b.toNat≠c.toNat:=λe=>h (UInt8.toNat_inj.1 e);simpa using (by omega:¬(b.toNat:Int)=c.toNat)
def jQ {w}(h:UT w)(z):ni 149 [ag [my ((Aq w).1),Y (Aq w).2]] z λb a=>b=O w/\W z a:=by have:=jR (Aq w) h.dec.2 z;rwa[h.dec.1]at this
def fH (N idn G a)(B:a.B∈N)(K:Z N<=2000)(P:Z a.A<=1000)(E:Z a.B<=1000)(F:∀t∈a.A,UT t)(z):
  ni 265 [ag [Y (N.idxOf a.B:Nat),sl G (Z a.A) (A0 a.A)],lw idn N] z λm g=>m=Y (Z (Bh a):Nat)/\W z g:=by
 have S:=Fh a.A;have q:=CS B;have C:(N.map O).drop (N.idxOf a.B)=O a.B::(N.map O).drop (N.idxOf a.B+1):=by
  have:=A1 q;rwa[FN q]at this
 generalize N.idxOf a.B=R at q C;refine wl func265 ?_;refine X ?_
 refine wn [16,17] 18 (Z a.A) (λk s g=>∃n:Nat,s 5=Y n/\W z g/\n<=1002+k*1001/\V (n=Z a.B+2+Z (Bp (a.A.take k)))) ⟨Z a.B+2,AG,Xs,L,by simp[V,Bp]⟩ ?_
 rintro k s g _ _ _ ⟨n,M,c,I,j⟩;have Q:=c.B;by_cases i:k<Z a.A
 ·obtain⟨w,p⟩:=gq i;have o:=F w (AY p);obtain⟨m,D⟩:=Gm p;have d:V (Z a.B+2+Z (Bp (a.A.take (k+1)))=n+((if k=0 then 0 else 1)+Z w)):=by
   rw[V,AT,p,BN,Vw,j.o];have e:(a.A.take k=[])↔k=0:=by
    rw[take_eq_nil_iff];constructor
    ·rintro (h|h)
     ·exact h
     rw[h]at i;cases i
    exact .inl
   by_cases l:k=0
   ·rw[if_pos (e.2 l),if_pos l];simp;omega
   rw[if_neg (λh=>l (e.1 h)),if_neg l];simp;omega
  have u:=λz=>jQ o z;have T:=o.2.2.1;clear p j o;by_cases f:k=0
  ·have x:decide ((0:Int)<(k:Int))=false:=ns f
   have d:V (n+Z w=Z a.B+2+Z (Bp (a.A.take (k+1)))):=by rw[V,d.o,if_pos f];omega
   clear f;refine mt u ?_;rintro yb ya _ _ ⟨rfl,b⟩;have A:=b.C;have y:=b.B;refine X ?_;exact⟨n+Z w,oj⟩
  have x:decide ((0:Int)<(k:Int)):=by simp;omega
  have d:V (n+1+Z w=Z a.B+2+Z (Bp (a.A.take (k+1)))):=by rw[V,d.o,if_neg f];omega
  clear f;refine mt u ?_;rintro yb ya _ _ ⟨rfl,b⟩;have A:=b.C;have y:=b.B;refine X ?_;exact⟨n+1+Z w,oj⟩
 obtain rfl:k=Z a.A:=L;have v:V (Z (Bh a)=n):=by
  rw[V,j.o,AS];simp[Bh];omega
 clear j;refine X ?_
 first
 |exact⟨_,rfl,by rw[v.o],c⟩
 |exact⟨_,rfl,by rw[v.o]⟩
structure KL (N:ol)(x:AB):Prop where
 o:x.o->x.A=[]
 A:Z x.A<=1000
 mem:x.h.B∈N
 hpl:Z x.h.B<=1000
 at_:∀a∈Af x,Z a.A<=3/\Z a.B<=1000/\∀t∈a.A,UT t
def pX {a}(h:Z a<=3)(g:∀t∈a,UT t):Z (Bp a)<=4000:=by
 have b:∀a:ol,(∀t∈a,UT t)->Z (Ch a)<=Z a*1001:=by
  intro a;induction a with
  |nil=>intro _;simp[Ch]
  |cons t a d=>
   intro h;have f:=d λu c=>h u (ns c);have e:=(h t nk).2.2.1;rw[Ch]at*
   simp only[DN,AX,BQ];omega
 cases a with
 |nil=>simp[Bp]
 |cons t a=>
  have f:=b a λu c=>g u (ns c);have e:=(g t nk).2.2.1;simp only[BQ]at h;rw[Bp,AX];omega
def Od {a}(h:Z a.A<=3/\Z a.B<=1000/\∀t∈a.A,UT t):Z (Bh a)<=6000:=by have:=pX h.1 h.2.2;have:=h.2.1;simp[Bh];omega
def Uv (a:oq)(k:Nat):Nat:=if k=0 then 0 else 2+Z (Bp ((a.take k).map Cl))
def yG {c k a}(h:c[k]?=some a):Uv c (k+1)=Uv c k+(if k=0 then 1 else 0)+(if a.nt=true then 1 else 0)+(1+Z (Bh a)):=by
 unfold Uv;rw[if_neg L,AT,h,BN,EU,map_singleton,Vw];have d:=(BA.1 h).1;have f:Z (Cl a)=(if a.nt=true then 1 else 0)+Z (Bh a):=by unfold Cl;split<;>simp;omega
 by_cases b:k=0;subst b;simp only[take_zero,IK,if_true,FE,Bp,CQ,f];omega;have e:(c.take k).map Cl≠[]:=λe=>by have:=congrArg length e;simp at this;obtain h|h:=this;exact b h;rw[h]at d;cases d
 rw[if_neg b,if_neg b,if_neg e];simp only[AX,KZ,f];omega
def yM (N idn x c)(hc:PI N x c)(T:Z N<=2000)(B:KL N x)(z):
  ni 243 [ag c,lw idn N] z λa2 b=>a2=Y (Z (Bz x++[46]):Nat)/\W z b:=by
 obtain⟨D,ih,id,af,t,rfl⟩:=hc;have a9:=r.length Eh t;have ah:=B.A;have a8:=B.hpl;have e:=CS D;have R:(N.map O).drop (N.idxOf x.h.B)=O x.h.B::(N.map O).drop (N.idxOf x.h.B+1):=by
  have:=A1 e;rwa[FN e]at this
 cases o:x.o
 ·have m:=B.at_;have E:=m x.h (Ap (.inl ⟨o,rfl⟩));have G:=λu z=>fH N idn u x.h D T L E.2.1 E.2.2 z;have ap:=Od E;have A:V (Z (Bz x++[46])=Z (Bh x.h)+1+Uv x.A (Z x.A)):=by
   rw[V,Bz,if_neg (by simp[o]),D1,Uv,AS];by_cases M:x.A=[]
   ·simp[M]
   have a0:Z x.A≠0:=λac=>M (GG ac);rw[if_neg M,if_neg a0];simp;omega
  have a5:∀a∈x.A,Z a.A<=3/\Z a.B<=1000/\∀ad∈a.A,UT ad:=λa ha=>m a (Ap (.inr ha));clear B m E;generalize N.idxOf x.h.B=ab at e R G;generalize Z (Bh x.h)=v at G ap A;refine Z9 48 [.tmp 4] func243 ?_;refine m0 ?_;intro yb ya;refine Xi (G _ _) ?_;rintro _ _ ⟨rfl,s⟩;(have S:=s.B;have P:=s.C;simp only[Aa]at S P);refine X ?_;rename_i z1
  refine wn [1,24,25] 26 (Z x.A) (λk aa b=>∃n:Nat,aa 5=Y n/\W z b/\n<=6001+k*7000/\V (n=v+1+Uv x.A k)) ⟨v+1,AG,Xs,L,by simp[V,Uv]⟩ ?_
  clear S P s G;rintro k aa b _ _ _ ⟨n,h5,i,a7,F⟩;have a6:=i.B;by_cases a1:k<Z x.A
  ·have I:=AK a1;have C:=a5 x.A[k] (AR a1);obtain⟨c0,a2,⟨Q,ae,rfl⟩,p⟩:=r.get Eh t I;generalize x.A[k]=a at I C p Q;have y:=λu z=>fH N idn u a Q T L C.2.1 C.2.2 z;have av:=Od C;have g:V (v+1+Uv x.A (k+1)=n+((if k=0 then 1 else 0)+(if a.nt=true then 1 else 0)+(1+Z (Bh a)))):=by
    rw[V,yG I,F.o];omega
   clear I F C;generalize Z (Bh a)=l at y av g;generalize N.idxOf a.B=ia at y p;simp only[EW,FE]at p;by_cases j:k=0
   ·have a4:((k:Int)==0)=true:=by simp[j]
    cases d:a.nt with
    |true=>
     rw[d]at p;have g:V (n+(1+l)+1+1=v+1+Uv x.A (k+1)):=by rw[V,g.o,if_pos j,if_pos d];omega
     clear j d;refine m0 ?_;intro yb ya;refine Xi (y _ _) ?_;rintro _ _ ⟨rfl,f⟩;(have K:=f.C;have q:=f.B;simp only[Ac,Aa]at q);refine X ?_;refine⟨n+(1+l)+1+1,?_⟩
     ((repeat' refine Zi ?_ ?_)<;>first|exact Xq|exact (((i.new _).put i.B _).trans f)|exact g|exact Xs)
    |false=>
     rw[d]at p;have g:V (n+(1+l)+1=v+1+Uv x.A (k+1)):=by rw[V,g.o,if_pos j,if_neg (by simp[d])];omega
     clear j d;refine m0 ?_;intro yb ya;refine Xi (y _ _) ?_;rintro _ _ ⟨rfl,f⟩;(have K:=f.C;have q:=f.B;simp only[Ac,Aa]at q);refine X ?_;refine⟨n+(1+l)+1,?_⟩
     ((repeat' refine Zi ?_ ?_)<;>first|exact Xq|exact (((i.new _).put i.B _).trans f)|exact g|exact Xs)
   have a4:((k:Int)==0)=false:=by simp;omega
   cases d:a.nt with
   |true=>
    rw[d]at p;have g:V (n+(1+l)+1=v+1+Uv x.A (k+1)):=by rw[V,g.o,if_neg j,if_pos d];omega
    clear j d;refine m0 ?_;intro yb ya;refine Xi (y _ _) ?_;rintro _ _ ⟨rfl,f⟩;(have K:=f.C;have q:=f.B;simp only[Ac,Aa]at q);refine X ?_;refine⟨n+(1+l)+1,?_⟩
    ((repeat' refine Zi ?_ ?_)<;>first|exact Xq|exact (((i.new _).put i.B _).trans f)|exact g|exact Xs)
   |false=>
    rw[d]at p;have g:V (n+(1+l)=v+1+Uv x.A (k+1)):=by rw[V,g.o,if_neg j,if_neg (by simp[d])];omega
    clear j d;refine m0 ?_;intro yb ya;refine Xi (y _ _) ?_;rintro _ _ ⟨rfl,f⟩;(have K:=f.C;have q:=f.B;simp only[Ac,Aa]at q);refine X ?_;refine⟨n+(1+l),?_⟩
    ((repeat' refine Zi ?_ ?_)<;>first|exact Xq|exact (((i.new _).put i.B _).trans f)|exact g|exact Xs)
  have a3:k=Z x.A:=L;subst a3;have U:V (Z (Bz x++[46])=n):=by rw[V,A.o,F.o]
  clear F A;refine X ?_
  first
  |exact⟨_,rfl,by rw[U.o],i⟩
  |exact⟨_,rfl,by rw[U.o]⟩
 have A:V ((Z (Bz x++[46]):Nat)=2+Z x.h.B):=by
  rw[V,Bz,if_pos o];simp;omega
 clear B;generalize N.idxOf x.h.B=ab at e R;refine Z9 48 [.tmp 4] func243 ?_;refine X ?_;exact⟨_,rfl,by rw[A.o];simp,Xs⟩
def Jk (l:n0):Bool:=decide (Z l<=16)&&(l.all (λx=>decide (Z x.A<=5))&&decide (Z (Cr l)<=600))
def wV {N x}(h:KL N x):Z (Bz x++[46])<=8000000:=by
 have l:=h.hpl;cases d:x.o
 ·have o:=Od (h.at_ x.h (Ap (.inl ⟨d,rfl⟩)));have i:∀c:oq,(∀a∈c,Z a.A<=3/\Z a.B<=1000/\∀t∈a.A,UT t)->Z (Ch (c.map Cl))<=Z c*6002:=by
   intro c;induction c with
   |nil=>intro _;simp[Ch]
   |cons a c j=>
    intro g;have l:=j λb f=>g b (by simp[f]);have n:=Od (g a nk);have p:Z (Cl a)<=6001:=by unfold Cl;split<;>simp<;>omega
    unfold Ch at*
    simp only[CC,DN,AX,BQ];omega
  have m:Z (Bp (x.A.map Cl))<=Z x.A*6002:=by
   have:=i x.A λa k=>h.at_ a (Ap (.inr k));cases f:x.A with
   |nil=>simp[Bp]
   |cons a c=>
    rw[f]at this;have e:Ch ((a::c).map Cl)=44::Bp ((a::c).map Cl):=by simp[Ch,Bp]
    rw[e]at this;simp only[BQ]at this⊢;omega
  have f:=h.A;rw[Bz,if_neg (by simp[d]),D1];split<;>simp<;>omega
 rw[Bz,if_pos d];simp;omega
def PJ (N:ol)(x:AB)(c:oh):Prop:=(PI N x c/\KL N x)\/(5<Z x.A/\Z x.A<=1000/\∃(o:Bool) (p:Int) (e d:Nat) (a:oh) (f:Nat) (b:oh),c=[my o,Y p,sl e d a,sl f (Z x.A) b])
def SG {N}(x c)(h:PJ N x c):Z c=4:=by obtain⟨h,-⟩|⟨-,-,_,_,_,_,_,_,_,rfl⟩:=h;exact Ew x c h;rfl
def Qv {α:Type}{E f}:∀{l:List α} {cs:oh},r E l cs->(∀a∈l,∀c,E a c->f a c)->r f l cs
 |[],_,h,_=>h
 |a::l,_,⟨c,d,k,j,e⟩,g=>⟨c,d,g a nk c k,Qv j (λb i=>g b (ns i)),e⟩
def aY (N l cs idn m)(G:r (PJ N) l cs)(S:Z N<=2000)(hl:Z l<=1000)(z):ni 207 [Cq N idn l m cs] z λp j=>p=my (Jk l)/\W z j:=by
 have aw:=r.length SG G;by_cases a5:16<Z l
 ·have U:decide ((16:Int)<(Z l:Int)):=by simp;omega
  have a:V (Jk l=false):=by rw[V,Jk,KF L];rfl
  refine wl func207 ?_;refine X ?_;exact⟨_,rfl,by rw[a.o],Xs⟩
 have U:decide ((16:Int)<(Z l:Int))=false:=by simp;omega
 refine wl func207 ?_;refine X ?_
 refine wn [1,11,12] 13 (Z l) (λi s j=>∃n:Nat,s 3=Y n/\W z j/\z.B<j.B/\j.C z.B=[lw idn N,sl m (Z l) cs]/\n<=i*8000000/\V (n=Z (Cr (l.take i))/\∀x∈l.take i,Z x.A<=5)) ⟨0,AG,Xs,AM,Ao,nk,by simp[V,Cr]⟩ ?_
 rintro i s j _ _ _ ⟨n,a6,k,au,a3,av,d⟩;have ap:=k.B;by_cases y:i<Z l
 ·obtain⟨x,g⟩:=gq y;obtain⟨c,p,e,A⟩:=r.get SG G g;have Q:∃(o:Bool) (a0:Int) (q v:Nat) (P:oh) (M:Nat) (b:oh),c=[my o,Y a0,sl q v P,sl M (Z x.A) b]:=by
   obtain⟨⟨-,q,id,b,-,rfl⟩,-⟩|⟨-,-,h⟩:=e
   ·exact⟨_,_,_,_,_,_,_,rfl⟩
   exact h
  have ax:Z x.A<=1000:=by
   obtain⟨-,h⟩|⟨-,h,-⟩:=e
   ·exact h.A
   exact h
  obtain⟨a4,xp,q,xn,xt,id,b,rfl⟩:=Q;simp only[EW,FE]at A;by_cases C:5<Z x.A
  ·have a1:decide ((5:Int)<(Z x.A:Int)):=by simp;omega
   have a:V (Jk l=false):=by
    have:l.all (λx=>decide (Z x.A<=5))=false:=by
     rw[IQ];exact⟨x,AY g,by simp;omega⟩
    rw[V,Jk,this];simp
   clear g d e;refine X ?_;exact⟨_,rfl,by rw[a.o],Xs⟩
  let⟨E,t⟩:=e.resolve_right (λh=>C h.1);have D:=λz=>yM N idn x _ E S t z;have K:=wV t;clear e E;have a1:decide ((5:Int)<(Z x.A:Int))=false:=by simp;omega
  have F:V (n+Z (Bz x++[46])=Z (Cr (l.take (i+1)))/\∀x∈l.take (i+1),Z x.A<=5):=by
   rw[V,AT,g,BN,d.o.1];refine⟨by simp[Cr],λa2 f=>?_⟩;obtain f|f:=AW.1 f
   ·exact d.o.2 a2 f
   simp at f;subst f;omega
  clear g d t C;generalize Z (Bz x++[46])=T at D K F;refine mt D ?_;rintro yb ya _ _ ⟨rfl,u⟩;have R:=u.B;have B:=u.C;simp only[Ac,Aa]at R B;refine X ?_;exact⟨n+T,oj⟩
 obtain rfl:i=Z l:=L;have a:V (Jk l=decide ((n:Int)<=600)):=by
  have h:=d.o;rw[AS]at h;rw[V,Jk,LJ L,CX.2 (λx I=>LJ (h.2 x I)),<-h.1];simp only[FV];congr 1;apply propext;omega
 clear d;refine X ?_
 first
 |exact⟨_,rfl,by rw[a.o],k⟩
 |exact⟨_,rfl,by rw[a.o]⟩
def Dr (N:ol)(l:n0)(k:Nat):Bool:=l.any λx=>!x.o&&decide (N.idxOf x.h.B=k)
def Sm {α:Type}{l:List α}{f i x}(h:(l.take i).any f=false)(b:l[i]?=some x)(a:f x=false):(l.take (i+1)).any f=false:=by rw[AT,b,BN,MH,h];simp[a]
def iI {α:Type}{l:List α}{f}{i:Nat}{x}(b:l[i]?=some x)(a:f x):l.any f:=CU.2 ⟨x,AY b,a⟩
def Nh (N l cs)(idn f k:Nat)(q:r (PI N) l cs)(u:Z l<=1000)(z):ni 134 [Cq N idn l f cs,Y k] z λm n=>m=my (Dr N l k)/\W z n:=by
 have D:=r.length Ew q;refine wl func134 ?_;refine X ?_
 refine wn [1,8,9] 10 (Z l) (λi s n=>W z n/\V (Dr N (l.take i) k=false)) ⟨Xs,by simp[V,Dr]⟩ ?_
 rintro i s n _ _ _ ⟨p,c⟩;have C:=p.B;by_cases y:i<Z l;have d:=AK y;obtain⟨A,B,id,b,m,v,j⟩:=Ih q d;generalize l[i]=x at j d A v;cases a:x.o
 ·rw[a]at j;by_cases e:N.idxOf x.h.B=k;have o:(((N.idxOf x.h.B:Nat):Int)==(k:Int))=true:=by simp[e]
  have g:V (Dr N l k=true):=iI d (by simp[a,e]);clear d c a e;generalize N.idxOf x.h.B=t at j o;refine X ?_;exact⟨_,rfl,by rw[g.o],Xs⟩;have o:(((N.idxOf x.h.B:Nat):Int)==(k:Int))=false:=nn (by omega:¬((N.idxOf x.h.B:Nat):Int)=k);have g:V (Dr N (l.take (i+1)) k=false):=Sm c.o d (by simp[e]);clear d c a e;generalize N.idxOf x.h.B=t at j o;refine X ?_;skip;exact m9 g
 rw[a]at j;have g:=Sm c.o d (by simp[a]);clear d c a;refine X ?_;skip;exact m9 g
 obtain rfl:i=Z l:=L;rw[AS]at c;refine X ?_
 first
 |exact⟨_,rfl,by rw[c.o],p⟩
 |exact⟨_,rfl,by rw[c.o]⟩
def Il (N:ol)(l:n0)(k:Nat):Bool:=l.any λx=>decide (N.idxOf x.h.B=k)||x.A.any λa=>decide (N.idxOf a.B=k)
def lY (N l cs)(idn d k:Nat)(Jqx:r (PI N) l cs)(hl:Z l<=1000)(U:∀x∈l,Z x.A<=1000)(z):ni 244 [Cq N idn l d cs,Y k] z λQ t=>Q=my (Il N l k)/\W z t:=by
 have az:=r.length Ew Jqx;refine wl func244 ?_;refine X ?_
 refine Ae (λm s t=>∃(i:Nat),m=Z l-i/\i<=Z l/\s 1=Y k/\s 10=sl d (Z l) cs/\s 11=Y (Z l)/\s 12=Y i/\W z t/\V (Il N (l.take i) k=false)) (Z l)
  ⟨0,L,L,rfl,AG,AG,rfl,Xs,by simp[V,Il]⟩ ?_
 rintro m s t ⟨i,rfl,hi,G,K,F,D,p,e⟩;have E:=p.B;by_cases I:i<Z l;obtain⟨x,n⟩:=gq I;have B:=U x (AY n);obtain⟨a2,a5,id,b,Q,v,C⟩:=Ih Jqx n;have ax:=r.length Eh v;by_cases c:N.idxOf x.h.B=k;have A:(((N.idxOf x.h.B:Nat):Int)==(k:Int)):=ns c
 have q:V (Il N l k):=iI n (ns c);clear n e c;generalize N.idxOf x.h.B=T at C A;refine X ?_;exact⟨_,rfl,by rw[q.o],Xs⟩;have A:(((N.idxOf x.h.B:Nat):Int)==(k:Int))=false:=nn (by omega:¬((N.idxOf x.h.B:Nat):Int)=k);have o:V (l[i]?=some x/\¬N.idxOf x.h.B=k):=⟨n,c⟩;clear n c;generalize N.idxOf x.h.B=T at C A;refine X ?_
 refine Ae (λm s M=>∃(j:Nat),m=Z x.A-j/\j<=Z x.A/\s 1=Y k/\s 10=sl d (Z l) cs/\s 11=Y (Z l)/\s 12=Y i/\s 22=sl id (Z x.A) b/\s 23=Y (Z x.A)/\s 24=Y j/\W z M/\V ((x.A.take j).any (λa=>decide (N.idxOf a.B=k))=false)) (Z x.A)
  ⟨0,L,L,AI,AI,AI,AI,AG,AG,rfl,Xs,by simp[V]⟩ ?_
 clear G K F D p E;rintro m s M ⟨j,rfl,hj,G,K,F,D,a7,a3,a0,p,g⟩;have E:=p.B;by_cases P:j<Z x.A;obtain⟨a,f⟩:=gq P;obtain⟨c0,a6,⟨a4,a1,rfl⟩,u⟩:=r.get Eh v f;simp only[EW,FE]at u;by_cases c:N.idxOf a.B=k;have y:(((N.idxOf a.B:Nat):Int)==(k:Int)):=ns c
 have q:V (Il N l k):=iI o.o.1 (by
  have:x.A.any (λa=>decide (N.idxOf a.B=k)):=iI f (ns c)
  simp only[this,Bool.or_true])
 clear f c g e o;generalize N.idxOf a.B=S at u y;refine X ?_;exact⟨_,rfl,by rw[q.o],Xs⟩;have y:(((N.idxOf a.B:Nat):Int)==(k:Int))=false:=nn (by omega:¬((N.idxOf a.B:Nat):Int)=k);have R:V ((x.A.take (j+1)).any (λa=>decide (N.idxOf a.B=k))=false):=Sm g.o f (ns c);generalize N.idxOf a.B=S at u y;refine X ?_;refine⟨Z x.A-(j+1),L,j+1,?_⟩;exact m9 R;obtain rfl:j=Z x.A:=L;rw[AS]at g;have q:=Sm e.o o.o.1 (by simp only[g.o,Bool.or_false];simpa using o.o.2);refine X ?_;refine⟨Z l-(i+1),L,i+1,?_⟩;exact m9 q;obtain rfl:i=Z l:=L;rw[AS]at e;refine X ?_
 first
 |exact⟨_,rfl,by rw[e.o],p⟩
 |exact⟨_,rfl,by rw[e.o]⟩
def Rt (N:ol)(a l:n0):Bool:=(range (Z N)).any λk=>(Dr N l k&&!Dr N a k)&&Il N a k
def W8 (f k):(range (k+1)).any f=((range k).any f||f k):=by rw[range_succ,MH];simp
def rR (N l m cs s idn M R K)(S:r (PI N) l cs)(I:r (PI N) m s)(a9:Z N<=2000)(P:Z l<=1000)(F:Z m<=1000)(Q:∀x∈m,Z x.A<=1000)(z):
  ni 208 [Cq N M m K s,Cq N idn l R cs] z λa6 e=>a6=my (Rt N m l)/\W z e:=by
 have i:=λk z=>Nh N l cs idn R k S P z;have t:=λk z=>Nh N m s M K k I F z;have u:=λk z=>lY N m s M K k I F Q z;refine wl func208 ?_;refine X ?_
 refine wn [2,3,7,8] 9 (Z N) (λk a7 e=>W z e/\z.B+1<e.B/\e.C z.B=[lw M N,sl K (Z m) s]/\e.C (z.B+1)=[lw idn N,sl R (Z l) cs]/\V ((range k).any (λk=>(Dr N l k&&!Dr N m k)&&Il N m k)=false)) ⟨Xs,AM,by rw[Ah AM,Ao],Ao,by simp[V]⟩ ?_
 rintro k a7 e _ _ _ ⟨j,a8,D,B,v⟩;by_cases a1:k<Z N
 ·have i:=i k;have t:=t k;have u:=u k;have C:=W8 (λk=>(Dr N l k&&!Dr N m k)&&Il N m k) k;rw[v.o]at C;have G:(Dr N l k&&!Dr N m k&&Il N m k)->Rt N m l:=λh=>CU.2 ⟨k,nn a1,h⟩;generalize Dr N l k=a3 at*
  generalize Dr N m k=U at*
  generalize Il N m k=a4 at*
  have g:V _:=C;have q:V _:=G;cases a3
  ·have c:=g.o;simp only[Bool.false_and,Bool.or_false]at c;have p:V _:=c;refine m0 ?_;intro yb ya;refine Xi (i _) ?_;rintro _ _ ⟨rfl,a⟩;(have A:=a.B;have d:=a.C);refine X ?_;skip
   ((repeat' refine Zi ?_ ?_)<;>first|exact Xq|exact p|exact (j.trans a)|exact (by rw[d _ L,D])|exact (by rw[d _ L,B])|exact Xs)
  cases U with
  |true=>
   have c:=g.o;simp only[FV,IY,Bool.false_and,Bool.or_false]at c;have p:V _:=c
   repeat' first|refine Z1 ?_|refine Z8 λyb ya=>?_|refine Z4 ?_;clear ya yb|refine Z2 ?_ ?_<;>intro h T<;>try exact Xp|(refine Z5 ?_;first|(refine Xi (i _) ?_;rintro _ _ ⟨rfl,a⟩;(have A:=a.B;have d:=a.C))|(refine Xi (t _) ?_;rintro _ _ ⟨rfl,b⟩;(have E:=b.B;have n:=b.C)))|refine Z3 ?_|exact Zt|apply ya.o;clear ya yb
   skip
   ((repeat' refine Zi ?_ ?_)<;>first|exact Xq|exact p|exact ((j.trans a).trans b)|exact (by rw[n _ L,d _ L,D])|exact (by rw[n _ L,d _ L,B])|exact Xs)
  |false=>
   cases a4 with
   |false=>
    have c:=g.o;simp only[FV,JX,Bool.and_false,Bool.or_false]at c;have p:V _:=c
    repeat' first|refine Z1 ?_|refine Z8 λyb ya=>?_|refine Z4 ?_;clear ya yb|refine Z2 ?_ ?_<;>intro h T<;>try exact Xp|(refine Z5 ?_;first|(refine Xi (i _) ?_;rintro _ _ ⟨rfl,a⟩;(have A:=a.B;have d:=a.C))|(refine Xi (t _) ?_;rintro _ _ ⟨rfl,b⟩;(have E:=b.B;have n:=b.C))|(refine Xi (u _) ?_;rintro _ _ ⟨rfl,f⟩;(have a5:=f.B;have y:=f.C)))|refine Z3 ?_|exact Zt|apply ya.o;clear ya yb
    skip
    ((repeat' refine Zi ?_ ?_)<;>first|exact Xq|exact p|exact (((j.trans a).trans b).trans f)|exact (by rw[y _ L,n _ L,d _ L,D])|exact (by rw[y _ L,n _ L,d _ L,B])|exact Xs)
   |true=>
    have o:V (Rt N m l=true):=q.o rfl;clear g q
    repeat' first|refine Z1 ?_|refine Z8 λyb ya=>?_|refine Z4 ?_;clear ya yb|refine Z2 ?_ ?_<;>intro h T<;>try exact Xp|(refine Z5 ?_;first|(refine Xi (i _) ?_;rintro _ _ ⟨rfl,a⟩;(have A:=a.B;have d:=a.C))|(refine Xi (t _) ?_;rintro _ _ ⟨rfl,b⟩;(have E:=b.B;have n:=b.C))|(refine Xi (u _) ?_;rintro _ _ ⟨rfl,f⟩;(have a5:=f.B;have y:=f.C;have a2:=((j.trans a).trans b).trans f)))|refine Z3 ?_|exact Zt|apply ya.o;clear ya yb
    first|exact⟨_,rfl,by rw[o.o],a2⟩|exact⟨_,rfl,by rw[o.o]⟩
 have a0:k=Z N:=L;have o:V (Rt N m l=false):=by
  have:=v.o;rw[a0]at this;exact this
 clear v;refine X ?_
 exact⟨_,rfl,by rw[o.o]⟩
structure JM (N:ol)(l:n0)(cs:oh):Prop where
 el:r (PI N) l cs
 len:Z l<=1000
 nm:Z N<=2000
 msr:∀x∈l,KL N x
 fits:∀x∈l,x.fits
 pos:∀x∈l,∀a∈Af x,0<Z a.A
 va:∀x∈l,∀a∈Af x,VA a
def JM.bk {N l cs}(h:JM N l cs)(a:Z l<=16):Bk N l cs:=⟨h.el,a,h.fits,λx b=>(h.msr x b).o,h.nm,h.pos⟩
def C5 (N:ol)(l a:n0):Bool:=Jk a&&(!Rt N a l&&((Co a).1==0))
structure PK (N:ol)(l:n0)(cs:oh):Prop where
 pj:r (PJ N) l cs
 len:Z l<=1000
 bk:Jk l->JM N l cs
def JM.bj {N l cs}(h:JM N l cs):PK N l cs:=⟨Qv h.el λx b c a=>.inl ⟨a,h.msr x b⟩,h.len,λ_=>h⟩
def Ib (N l K cs M idn Q P)(k:JM N l cs)(b:PK N K M)(z):
  ni 177 [Cq N idn l Q cs,sl P (Z K) M] z λR s=>(∃x,R=tp [x,my (C5 N l K)]/\(C5 N l K->x=Cq N idn K P M)/\(∃n u t o E y,x=ag [sl n u t,sl o E y]))/\W z s:=by
 have e:=λz=>aY N K M idn P b.pj k.nm b.len z;cases a:Jk K
 ·have d:C5 N l K=false:=by unfold C5;rw[a];rfl
  rw[a]at e;rw[d];refine Z9 30 [.cell 4 62,.tmp 5] func177 ?_;refine m0 ?_;intro yb ya;refine Xi (e _) ?_;rintro _ _ ⟨rfl,c⟩;(have g:=c.B;have i:=c.C;(try simp only[Aa,Ac]at g i));refine X ?_;exact⟨_,rfl,⟨_,rfl,(λh=>by cases h),1,0,[],1,0,[],rfl⟩,Xs⟩
 rw[a]at e;have b:=b.bk a;have j:=λz=>rR N l K cs M idn idn Q P k.el b.el k.nm k.len b.len (λx v=>(b.msr x v).A) z;have F:Z K<=16:=by
  unfold Jk at a;simp only[BM,CV]at a;exact a.1
 cases m:Rt N K l with
 |true=>
  have d:C5 N l K=false:=by unfold C5;rw[a,m];rfl
  rw[m]at j;rw[d];refine Z9 30 [.cell 4 62,.tmp 5] func177 ?_
  repeat' first|refine Z1 ?_|refine Z8 λyb ya=>?_|refine Z4 ?_;clear ya yb|refine Z2 ?_ ?_<;>intro h A<;>try exact Xp|(refine Z5 ?_;first|(refine Xi (e _) ?_;rintro _ _ ⟨rfl,c⟩;(have g:=c.B;have i:=c.C;(try simp only[Aa,Ac]at g i)))|(refine Xi (j _) ?_;rintro _ _ ⟨rfl,f⟩;(have D:=f.B;have C:=f.C)))|refine Z3 ?_|exact Zt|apply ya.o;clear ya yb
  exact⟨_,rfl,⟨_,rfl,(λh=>by cases h),1,0,[],1,0,[],rfl⟩,Xs⟩
 |false=>
  have d:C5 N l K=((Co K).1==0):=by unfold C5;rw[a,m];simp
  rw[m]at j;rw[d];have p:=λz=>Yy N K M idn P (b.bk F) b.va z;generalize Co K=B at p;obtain⟨I,S⟩:=B;clear d;refine Z9 30 [.cell 4 62,.tmp 5] func177 ?_
  repeat' first|refine Z1 ?_|refine Z8 λyb ya=>?_|refine Z4 ?_;clear ya yb|refine Z2 ?_ ?_<;>intro h A<;>try exact Xp|(refine Z5 ?_;first|(refine Xi (e _) ?_;rintro _ _ ⟨rfl,c⟩;(have g:=c.B;have i:=c.C;(try simp only[Aa,Ac]at g i)))|(refine Xi (j _) ?_;rintro _ _ ⟨rfl,f⟩;(have D:=f.B;have C:=f.C))|(refine Xi (p _) ?_;rintro _ _ ⟨rfl,q⟩;(have G:=q.C)))|refine Z3 ?_|exact Zt|apply ya.o;clear ya yb
  exact⟨_,rfl,⟨_,rfl,λ_=>rfl,_,_,_,_,_,_,rfl⟩,Xs⟩
def rpl {α:Type}(n:Nat)(o:List α)(l:List α):List α:=l.zipIdx.flatMap λp=>if p.2=n then o else [p.1]
def W5 {α:Type}{n}{o l:List α}{i x}(h:l[i]?=some x):rpl n o (l.take (i+1))=rpl n o (l.take i)++if i=n then o else [x]:=by
 have a:=(BA.1 h).1;unfold rpl;rw[AT,h,BN,zipIdx_append,KC,CN,ER L];simp
def Rj {α:Type}{n o}(l:List α):∀i,Z (rpl n o (l.take i))<=i*(Z o+1)
 |0=>by simp[rpl]
 |i+1=>by
  have a:=Rj l i (n:=n) (o:=o);cases h:l[i]? with
  |none=>
   rw[AT,h,Option.toList_none,EJ];rw[FM];omega
  |some x=>
   rw[W5 h,AX,FM];split<;>simp<;>omega
def PM (c:oh):Prop:=∃(o:Bool) (p:Int) (e d:Nat) (a:oh) (f g:Nat) (b:oh),c=[my o,Y p,sl e d a,sl f g b]
def pF {N x c}(h:PI N x c):PM c:=by obtain⟨-,a,id,b,-,rfl⟩:=h;exact⟨_,_,_,_,_,_,_,_,rfl⟩
def Nb {α:Type}{E}(K:∀x c,E x c->PM c)(N)(l o:List α)(cs co)(idn g ido n:Nat)(hE:r E l cs)(u:r E o co)(hl:Z l<=1000)(ho:Z o<=1000)(z):
  ni 178 [ag [lw idn N,sl g (Z l) cs],sl ido (Z o) co,Y n] z λa3 q=>(∃id a,a3=sl id (Z (rpl n o l)) a/\r E (rpl n o l) a)/\W z q:=by
 have A:∀x c,E x c->Z c=4:=λx c h=>by obtain⟨_,_,_,_,_,_,_,_,rfl⟩:=K x c h;rfl
 have bi:=r.length A hE;have bh:=r.length A u;refine wl func178 ?_;refine X ?_
 refine wn [1,2,14,15] 16 (Z l) (λi s q=>∃(id:Nat) (R:List α) (c:oh),s 7=sl id (Z R) c/\W z q/\J z q id (Z R)/\Z c=Z R*4/\Z R<=i*(Z o+1)/\V (R=rpl n o (l.take i)/\r E R c)) ⟨1,[],[],AG,Xs,J.nil _ _,nk,nk,⟨by simp[rpl],rfl⟩⟩ ?_
 rintro i s q _ ⟨h1,a6,a4,aa⟩ a0 ⟨id,R,c,M,d,k,f,be,b⟩;have U:=d.B;by_cases ba:i<Z l
 ·obtain⟨x,t⟩:=gq ba;obtain⟨c1,a3,F,hd⟩:=r.get A hE t;obtain⟨a2,x2,x3,x4,x5,x6,T,P,rfl⟩:=K _ _ F;simp only[EW,FE]at hd;have bf:V _:=F;clear F;have bm:Z R<=1001000:=BI be (BI (Nat.mul_le_mul (by omega:i<=1000) (by omega:Z o+1<=1001)) nr);have m:=Rj (n:=n) (o:=o) l (i+1);have e:=W5 (n:=n) (o:=o) t;rw[<-b.o.1]at e;by_cases v:i=n
  ·rw[if_pos v]at e;have a9:((i:Int) !=(n:Int))=false:=ns v
   have S:V _:=e;have a1:V (r E R c):=b.o.2;rw[e,AX]at m;clear e t b v;refine X ?_
   refine wn [1,2,14,15,16,28,29] 30 (Z o) (λj s C=>∃(id:Nat) (a:oh),s 7=sl id (Z R+j) a/\W z C/\J z C id (Z R+j)/\Z a=(Z R+j)*4/\V (r E (R++o.take j) a)) ⟨id,c,AI,Xs,(nn (J.put (J.new k _) _ _)),nn f,nn a1⟩ ?_
   clear h1 a6 M a4 aa a0 d k U f a1;rintro j s C _ _ _ ⟨id,a,M,d,k,f,p⟩;have U:=d.B;by_cases ax:j<Z o
   ·obtain⟨ae,B⟩:=gq ax;obtain⟨c2,rj,D,a5⟩:=r.get A u B;obtain⟨y1,y2,y3,y4,y5,y6,y7,y8,rfl⟩:=K _ _ D;simp only[EW,FE]at a5;have bg:V (r E (R++o.take (j+1)) (a++[my y1,Y y2,sl y3 y4 y5,sl y6 y7 y8])):=by
     rw[V,AT,B,BN,<-CR];exact r.append p.o (r.single D)
    clear B p D;refine nh ?_;intro yb ya;refine hZ ((d.new _).put d.B _) ?_;intro idn zn y aj ad I ac ab;simp only[Ac,Aa]at I;refine X ?_;exact⟨idn,a++[my y1,Y y2,sl y3 y4 y5,sl y6 y7 y8],qk bg y⟩
   obtain rfl:j=Z o:=L;rw[AS]at p;have Q:V (R++o=rpl n o (l.take (i+1))/\r E (R++o) a):=⟨S.o.symm,p.o⟩;clear p S;have bd:Z a=Z (R++o)*4:=by rw[f,AX]
   have bn:J z C id (Z (R++o)):=by rw[AX];exact k
   rw[<-AX]at M;have a8:Z (R++o)<=(i+1)*(Z o+1):=by rw[AX];exact m
   refine X ?_;refine⟨id,R++o,a,?_⟩;exact m9 Q
  rw[if_neg v]at e;have a9:((i:Int) !=(n:Int)):=nn (by omega:¬(i:Int)=n);have Q:V (R++[x]=rpl n o (l.take (i+1))/\r E (R++[x]) (c++[my a2,Y x2,sl x3 x4 x5,sl x6 T P])):=⟨e.symm,r.append b.o.2 (r.single bf.o)⟩;rw[e]at m;clear e t b v;refine nh ?_;intro yb ya;refine hZ ((d.new _).put d.B _) ?_;intro idn zn y aj ad I ac ab;simp only[Ac,Aa]at I;refine X ?_;exact⟨idn,R++[x],c++[my a2,Y x2,sl x3 x4 x5,sl x6 T P],qk Q (nn y)⟩
 obtain rfl:i=Z l:=L;rw[AS]at b;have G:V (rpl n o l=R):=b.o.1.symm;have a7:V (r E R c):=b.o.2;clear b;refine X ?_
 exact⟨_,rfl,id,c,by rw[G.o],by rw[G.o];exact a7.o⟩
def Xx (N l o cs i)(idn a ido n:Nat)(g:r (PI N) l cs)(b:r (PI N) o i)(f:Z l<=1000)(e:Z o<=1000)(z):
  ni 178 [Cq N idn l a cs,sl ido (Z o) i,Y n] z λj d=>(∃id c,j=sl id (Z (rpl n o l)) c/\r (PI N) (rpl n o l) c)/\W z d:=
 Nb (λ_ _ h=>pF h) N l o cs i idn a ido n g b f e z
end Go.Proofs.YtmoeoppbmhfbpabGreatDoorJ
