import Derived.Test.YtmoeoppbmhfbpabGreatDoorJDocD
set_option maxHeartbeats 64000000
set_option maxRecDepth 100000
set_option linter.all false
open List renaming length->Z
namespace Go.Proofs.YtmoeoppbmhfbpabGreatDoorJ
open Go.Abs
def iZ {ida nA cA fz mo ido nO a c oc b B}:(C7 ida nA cA fz mo ido nO oc B).set 3 (sl a c b)=C7 ida nA cA fz mo a c b B:=rfl
def FC.addO {b σ' ow ida nA cA fz mo ido O oc B N id' a k}(h:FC b ow ida nA cA fz mo ido O oc B N)(p:Bf a k)
  (s:Live σ' id' (Z O+1)) (l:id'=ido\/b.D+2<=id') (t:id'≠1)
  (i:∀o,o<b.B->o≠ow->σ'.C o=b.C o) (r:∀o,o<b.B->o≠ow->σ'.ver o=b.ver o) (f:b.B<=σ'.B) (c:b.D<=σ'.D)
  (d:∀j,j<b.D->j+2≠ido->σ'.top j=b.top j) (g:σ'.C ow=(C7 ida nA cA fz mo ido (Z O) oc B).set 3 (sl id' (Z O+1) (oc++k))):
  FC σ' ow ida nA cA fz mo id' (O++[a]) (oc++k) B N/\KW ow (Dv ido (Z O) B) (Dv id' (Z (O++[a])) B) b σ':=by
 have n:(Dv ido (Z O) B)[0]?=some (ido,Z O):=rfl;obtain⟨q,m⟩:=JB.grow (ow:=ow) h.rw' n s l t i r f c d;have e:Dv id' (Z (O++[a])) B=(Dv ido (Z O) B).set 0 (id',Z O+1):=by simp[Dv]
 rw[e];refine⟨⟨?_,BZ h.lo f,h.bl,EL.append h.oe (EL.single p),by rw[e];exact q,h.bn⟩,m⟩;rw[g,iZ];simp
def QR {fz A cA j p x h}(m:H3 A cA)(b:CJ fz j p x)(g:U1 fz A x h):DX h:=by
 obtain⟨n,l,-,rfl⟩:=g;refine⟨b.cl.2.1.1,λt f=>?_,by show Z (x.h.A.map _)<=1000;rw[BV];exact b.cl.2.1.2.2⟩;obtain⟨u,c,rfl⟩:=AN.1 f;cases d:Ab u with
 |false=>rw[Cm d];exact b.cl.2.1.2.1 u c
 |true=>
  obtain⟨a,i,k,e⟩:=b.saf u d (.inl c);exact (m.cl _ (l a i k)).2.1 _ (AN.2 ⟨u,e,rfl⟩)
def ZL {fz A cA mo i p x O c S f}(k:H3 A cA)(d:CJ fz i p x)(g:∀a∈O,DX a)(h:aE fz A mo x O S c f):∀a∈c,DX a:=by
 obtain⟨l,rfl,j⟩:=h.ext;intro a e;rcases AW.1 e with b|b;exact g a b;exact QR k d (j a b).1
def OX (fz:Bool)(A:oq)(cA:oh)(ida:Nat)(mo:Int)(f p:Nat):Prop:=∀(x:AB) (c:oh),AJ x c->CJ fz f p x->∀(e b:Nat) (O:oq) (i:oh) (B:BK) (N:Nat) (d:St),FC d e ida (Z A) cA fz mo b O i B N->N+Hr f (Z A) p+1001<=1000000000000+Z O->O.Nodup->(Z O:Int)<=mo+1->(∀a∈O,DX a)->CI fz A O mo (Sp B) (Z x.A)->
  ni 202 [ptr e 0,ag c] d λr g=>Ul fz A cA ida mo f p x e b O B N d g
def eK (fz A cA ida mo c0)(hA:H3 A cA)(hm0:0<=mo)(hm1:mo<=900)(p)(IH:∀q,p=q+1->OX fz A cA ida mo c0 q):OX fz A cA ida mo c0 p:=by
 intro x c hc hH v d O z B N g hW hN hnd P hOc hS;have b5:=hc;obtain⟨M,id,b,hb,rfl⟩:=hc.cells;unfold A4;unfold A4 at b5;have au:=hH.fits;have hb5:=au.1;have ei:=hW.lo;have d1:=hA.len;have fe:Z O<=901:=AA;have ce:=λg=>M9 x.h _ ⟨M,rfl⟩ au.2.1 g;have du:=λg=>Gt O z d x.h [my x.h.nt,str x.h.B,sl M (Z x.h.A) (x.h.A.map str)] hW.oe ⟨M,rfl⟩ AA (λa L=>(hOc a L).2.2) g;have dv:=λg=>Gt A cA ida x.h [my x.h.nt,str x.h.B,sl M (Z x.h.A) (x.h.A.map str)] hA.el ⟨M,rfl⟩ d1 (λa L=>(hA.cl a L).2.2) g;have ep:(C7 ida (Z A) cA fz mo d (Z O) z B)[0]?=some (sl ida (Z A) cA):=rfl;have ek:(C7 ida (Z A) cA fz mo d (Z O) z B).head?=some (sl ida (Z A) cA):=rfl;have eo:(C7 ida (Z A) cA fz mo d (Z O) z B)[1]?=some (my fz):=rfl;have en:(C7 ida (Z A) cA fz mo d (Z O) z B)[2]?=some (ic mo):=rfl;have em:(C7 ida (Z A) cA fz mo d (Z O) z B)[3]?=some (sl d (Z O) z):=rfl;have eb:=Jc (ida:=ida) (nA:=Z A) (cA:=cA) (fz:=fz) (mo:=mo) (ido:=d) (nO:=Z O) (oc:=z) hW.bl;have dn:=hW.ob;generalize bb:C7 ida (Z A) cA fz mo d (Z O) z B=wc at*
 have cf:AC _:=bb;clear bb;refine Z9 109 [] Tryz.func202 ?_;refine mr ?_;obtain⟨U,R⟩:∃U,U=g.new [my x.o,my x.h.nt,str x.h.B,sl M (Z x.h.A) (x.h.A.map str),sl id (Z x.A) b]:=⟨_,rfl⟩;rw[<-R];have dy:AD g U:=by rw[R];exact (AD.refl g).new _
 have e7:U.B=g.B+1:=by rw[R];rfl
 have be:U.C v=wc:=by rw[dy.C _ ei,dn]
 have ba:U.C g.B=[my x.o,my x.h.nt,str x.h.B,sl M (Z x.h.A) (x.h.A.map str),sl id (Z x.A) b]:=by rw[R];exact Ao
 clear R;refine A2 (Q:=λe s' f=>e= .normal/\∃th,s' 4=my th/\s' 0=ptr v 0/\s' 3=ptr g.B 0/\AD U f/\(th=true↔(aI x.h/\(x.h∈O\/x.h∈A)))) ?_ ?_
 ·by_cases hz:Kh x.h=0
  ·rw[hz]at ce;have d7:((((0:Nat):Int))==0)=true:=rfl;have cg:AC (aI x.h):=EP.1 hz;refine Ar Ag (λ_=>True) [] [0,1] 21 (nv 23 3) AH (λ_ _ _ h=>by cases h.1) ?_;intro yb ya;refine Z3 ?_;refine ya.o _ ?_;clear ya yb;refine Ai (i:=2) AH ?_;refine Am ?_;intro yb ya;refine Z3 ?_;refine AF.mono (ce _) ?_;rintro _ C ⟨rfl,I⟩;refine Z3 ?_;refine ya.o _ _ ⟨Al I,?_⟩;clear ya yb;have bd:C.C v=wc:=by rw[I.C _ AA,be]
   have a0:C.C g.B=[my x.o,my x.h.nt,str x.h.B,sl M (Z x.h.A) (x.h.A.map str),sl id (Z x.A) b]:=by rw[I.C _ AA,ba]
   have ck:=I.B;refine Hv [3,4,5,6,7,8,9,10] 12 20 (nv 23 2047) rfl AH AH (λ_ _ _ h=>by cases h.1) (I).B (λo u _=>(I).ver o u) ?_;intro yb ya;refine Z3 ?_;refine ya.o _ ?_;clear ya yb;refine Ai (i:=11) AH ?_;refine Am ?_;intro yb ya;refine Z3 ?_;refine AF.mono (du _) ?_;rintro _ V ⟨b1,rfl,dt,X⟩;refine Z3 ?_;refine ya.o _ _ ⟨Al X,?_⟩;clear ya yb;have a4:V.C v=wc:=by rw[X.C _ AA,bd]
   have a9:V.C g.B=[my x.o,my x.h.nt,str x.h.B,sl M (Z x.h.A) (x.h.A.map str),sl id (Z x.A) b]:=by rw[X.C _ AA,a0]
   have bw:=X.B;cases b1 with
   |true=>
    refine Hv [12,13,14,15,16,17,18] 4 11 (nv 23 524287) rfl AH AH (λ_ _ _ h=>by cases h.1) (X).B (λo u _=>(X).ver o u) ?_;intro yb ya;refine Z3 ?_;refine ya.o _ ?_;clear ya yb;refine Ai (i:=19) AH ?_;refine Am ?_;intro yb ya;refine Z3 ?_;refine ya.o _ _ ⟨kept_refl,?_⟩;clear ya yb;refine Df [20,21,22] AH AH (λ_ _ _ h=>by cases h.1) (AU _) (λo u _=>rfl) ?_;intro yb ya;refine Z3 ?_;refine ya.o _ _ ⟨rfl,true,AI,by simp[upd,AL, *],AI,I.trans X,λ_=>⟨cg.o,.inl (dt.1 rfl)⟩,λ_=>rfl⟩
   |false=>
    refine Hv [12,13,14,15,16,17,18] 4 11 (nv 23 524287) rfl AH AH (λ_ _ _ h=>by cases h.1) (X).B (λo u _=>(X).ver o u) ?_;intro yb ya;refine Z3 ?_;refine ya.o _ ?_;clear ya yb;refine Ai (i:=19) AH ?_;refine Am ?_;intro yb ya;refine Z3 ?_;refine AF.mono (dv _) ?_;rintro _ σ4 ⟨b2,rfl,ds,T⟩;refine Z3 ?_;refine ya.o _ _ ⟨Al T,?_⟩;clear ya yb;refine Df [20,21,22] AH AH (λ_ _ _ h=>by cases h.1) T.B (λo u _=>T.ver o u) ?_;intro yb ya;refine Z3 ?_;refine ya.o _ _ ⟨rfl,b2,AG,by simp[upd,AL, *],AI,(I.trans X).trans T,λh=>⟨cg.o,.inr (ds.1 h)⟩,λh=>?_⟩;rcases h.2 with h'|h'
    ·exact absurd (dt.2 h') nk
    exact ds.2 h'
  have d7:(((Kh x.h:Nat):Int)==0)=false:=by simp;omega
  have cg:AC (¬aI x.h):=λh=>hz (EP.2 h);generalize Kh x.h=lz at*
  refine Ar Ag (λ_=>True) [] [0,1] 21 (nv 23 3) AH (λ_ _ _ h=>by cases h.1) ?_;intro yb ya;refine Z3 ?_;refine ya.o _ ?_;clear ya yb;refine Ai (i:=2) AH ?_;refine Am ?_;intro yb ya;refine Z3 ?_;refine AF.mono (ce _) ?_;rintro _ C ⟨rfl,I⟩;refine Z3 ?_;refine ya.o _ _ ⟨Al I,?_⟩;clear ya yb;refine Hv [3,4,5,6,7,8,9,10] 12 20 (nv 23 2047) rfl AH AH (λ_ _ _ h=>by cases h.1) (I).B (λo u _=>(I).ver o u) ?_;intro yb ya;refine Z3 ?_;refine ya.o _ ?_;clear ya yb;refine Ai (i:=11) AH ?_;refine Am ?_;intro yb ya;refine Z3 ?_;refine ya.o _ _ ⟨kept_refl,?_⟩;clear ya yb;refine Hv [12,13,14,15,16,17,18] 4 11 (nv 23 524287) rfl AH AH (λ_ _ _ h=>by cases h.1) (AU _) (λo u _=>rfl) ?_;intro yb ya;refine Z3 ?_;refine ya.o _ ?_;clear ya yb;refine Ai (i:=19) AH ?_;refine Am ?_;intro yb ya;refine Z3 ?_;refine ya.o _ _ ⟨kept_refl,?_⟩;clear ya yb;refine Df [20,21,22] AH AH (λ_ _ _ h=>by cases h.1) (AU _) (λo u _=>rfl) ?_;intro yb ya;refine Z3 ?_;refine ya.o _ _ ⟨rfl,false,AI,by simp[upd,AL, *],AI,I,λh=>(by cases h),λh=>absurd h.1 cg.o⟩
 rintro e s' C ⟨rfl,th,g4,g0,g3,I,dc⟩;have bd:C.C v=wc:=by rw[I.C _ AA,be]
 have a0:C.C g.B=[my x.o,my x.h.nt,str x.h.B,sl M (Z x.h.A) (x.h.A.map str),sl id (Z x.A) b]:=by rw[I.C _ AA,ba]
 have ck:=I.B;have bq:AC _:=dc;clear dc ce du dv be ba;have cb:AD g C:=dy.trans I;have a6:=hW.keep cb;cases th with
 |true=>
  have K:AC (Ul fz A cA ida mo c0 p x v d O B N g C):=by
   refine⟨d,O,z,B,N,a6,KW.ofKeep cb,Tk hnd P hS (λ_ h hh=>?_),AA⟩;obtain⟨hg,hm⟩:=bq.o.1 rfl;rw[VD hg hh];exact hm.symm
  clear bq hW hS a6;refine mr ?_;refine A2 (Q:=λe F f=>e= .normal/\F 48=my true/\f=C) ?_ ?_
  ·refine Ar Ag (λ_=>True) [16,17] [0,1,2,3,4,5,6,7,8,9,10,11,12,13,14,15] 2 (nv 18 65535) AH (λ_ _ _ h=>by cases h.1) ?_;intro yb ya;refine Z3 ?_;refine ya.o _ ?_;clear ya yb;refine Ai (i:=16) AH ?_;refine Am ?_;intro yb ya;refine Z3 ?_;refine ya.o _ _ ⟨A3 rfl,?_⟩;clear ya yb;refine Ai (i:=17) AH ?_;refine Am ?_;intro yb ya;refine Z3 ?_;refine ya.o _ _ ⟨A3 rfl,?_⟩;clear ya yb;exact Aw AH ⟨rfl,AG,rfl⟩
  rintro e F f ⟨rfl,E,rfl⟩
  first|refine Cj E ?_|(refine Iy ?_;refine Cj E ?_)
  refine mr ?_
  first|exact⟨_,rfl,K.o⟩|exact K.o
 |false=>
  by_cases b3:mo<(Z O:Int)
  ·have dq:decide ((Z O:Int)>mo)=true:=nn b3
   have dp:decide (mo<(Z O:Int))=true:=nn b3
   have K:AC (Ul fz A cA ida mo c0 p x v d O B N g C):=
    ⟨d,O,z,B,N,a6,KW.ofKeep cb,Tk hnd P hS (λh=>AA),AA⟩
   clear bq hW hS a6;refine mr ?_;refine A2 (Q:=λe F f=>e= .normal/\F 48=my true/\f=C) ?_ ?_
   ·refine Ar Ag (λ_=>True) [16,17] [0,1,2,3,4,5,6,7,8,9,10,11,12,13,14,15] 2 (nv 18 65535) AH (λ_ _ _ h=>by cases h.1) ?_;intro yb ya;refine Z3 ?_;refine ya.o _ ?_;clear ya yb;refine Ai (i:=16) AH ?_;refine Am ?_;intro yb ya;refine Z3 ?_;refine ya.o _ _ ⟨A3 rfl,?_⟩;clear ya yb;refine Ai (i:=17) AH ?_;refine Am ?_;intro yb ya;refine Z3 ?_;refine ya.o _ _ ⟨A3 rfl,?_⟩;clear ya yb;exact Aw AH ⟨rfl,AG,rfl⟩
   rintro e F f ⟨rfl,E,rfl⟩
   first|refine Cj E ?_|(refine Iy ?_;refine Cj E ?_)
   refine mr ?_
   first|exact⟨_,rfl,K.o⟩|exact K.o
  have dq:decide ((Z O:Int)>mo)=false:=nn b3;have dp:decide (mo<(Z O:Int))=false:=nn b3;have c9:=λg h=>sZ x _ b5 hH.cl hb5 v ida (Z A) cA fz mo d O z B N AA g h;refine mr ?_;refine A2 (Q:=λe F f=>e= .normal/\F 0=ptr v 0/\F 3=ptr g.B 0/\((Sp B (Fb x)/\F 48=my true/\AD C f)\/(¬Sp B (Fb x)/\F 48=my false/\∃W y,B[Jn (Fb x)]?=some y/\FC f v ida (Z A) cA fz mo d O z (B.set (Jn (Fb x)) (W,y.2++[Fb x])) (N+1)/\KW v (Dv d (Z O) B) (Dv d (Z O) (B.set (Jn (Fb x)) (W,y.2++[Fb x]))) C f))) ?_ ?_
  ·refine Ar Ag (λ_=>True) [16,17] [0,1,2,3,4,5,6,7,8,9,10,11,12,13,14,15] 2 (nv 18 65535) AH (λ_ _ _ h=>by cases h.1) ?_;intro yb ya;refine Z3 ?_;refine ya.o _ ?_;clear ya yb;refine Ai (i:=16) AH ?_;refine Am ?_;intro yb ya;refine Z3 ?_;refine AF.mono (c9 _ a6) ?_;rintro r V (⟨h1,rfl,X⟩|⟨h1,rfl,h3⟩)
   ·refine Z3 ?_;refine ya.o _ _ ⟨A3 rfl,?_⟩;clear ya yb;refine Ai (i:=17) AH ?_;refine Am ?_;intro yb ya;refine Z3 ?_;refine ya.o _ _ ⟨A3 rfl,?_⟩;clear ya yb;exact Aw AH ⟨rfl,AI,AI,.inl ⟨h1,AG,X⟩⟩
   refine Z3 ?_;refine ya.o _ _ ⟨A3 rfl,?_⟩;clear ya yb;refine Ai (i:=17) AH ?_;refine Am ?_;intro yb ya;refine Z3 ?_;refine ya.o _ _ ⟨A3 rfl,?_⟩;clear ya yb;exact Aw AH ⟨rfl,AI,AI,.inr ⟨h1,AG,h3⟩⟩
  rintro e F V ⟨rfl,f0,f3,b6⟩;rcases b6 with⟨cr,E,X⟩|⟨cr,E,W,y,hy,bv,aw⟩
  ·have K:AC (Ul fz A cA ida mo c0 p x v d O B N g V):=
    ⟨d,O,z,B,N,a6.keep X,KW.ofKeep (cb.trans X),Tk hnd P hS (hS x hH.cl (AU _) cr),AA⟩
   clear bq hW hS a6 c9
   first|refine Cj E ?_|(refine Iy ?_;refine Cj E ?_)
   refine mr ?_
   first|exact⟨_,rfl,K.o⟩|exact K.o
  have bm:=λs=>ZY (s:=s) (id':=W) hy;generalize e5:B.set (Jn (Fb x)) (W,y.2++[Fb x])=Bq at bv aw bm;have db:AC (Sp Bq=λs=>Sp B s\/s=Fb x):=funext λs=>propext (bm s);have a9:V.C g.B=[my x.o,my x.h.nt,str x.h.B,sl M (Z x.h.A) (x.h.A.map str),sl id (Z x.A) b]:=by rw[aw.C _ AA AA,a0]
  have bw:=aw.B;have cc:=(KW.ofKeep cb).trans aw;have a4:=bv.ob;have dm:(C7 ida (Z A) cA fz mo d (Z O) z Bq)[0]?=some (sl ida (Z A) cA):=rfl;have di:(C7 ida (Z A) cA fz mo d (Z O) z Bq).head?=some (sl ida (Z A) cA):=rfl;have dl:(C7 ida (Z A) cA fz mo d (Z O) z Bq)[1]?=some (my fz):=rfl;have dk:(C7 ida (Z A) cA fz mo d (Z O) z Bq)[3]?=some (sl d (Z O) z):=rfl;have dh:=Jc (ida:=ida) (nA:=Z A) (cA:=cA) (fz:=fz) (mo:=mo) (ido:=d) (nO:=Z O) (oc:=z) bv.bl;clear bm e5 hy c9 cr bd a0 ep ek eo en em eb dn cf hW a6 dq dp g4 g0 g3 I;generalize bb:C7 ida (Z A) cA fz mo d (Z O) z Bq=wc1 at a4 dm di dl dk dh;have cf:AC _:=bb;clear bb;have dx:=λg=>qM x _ fz b5 au g
  first|refine De E ?_|(refine Iy ?_;refine De E ?_)
  refine mr ?_;refine A2 (Q:=λe s3 f=>e= .normal/\∃n,OW fz x n/\s3 5=ic n/\s3 0=ptr v 0/\s3 3=ptr g.B 0/\AD V f) ?_ ?_
  ·refine Ar Ag (λ_=>True) [] [0,1,2,3,4] 2 (nv 7 31) AH (λ_ _ _ h=>by cases h.1) ?_;intro yb ya;refine Z3 ?_;refine ya.o _ ?_;clear ya yb;refine Ai (i:=5) AH ?_;refine Am ?_;intro yb ya;refine Z3 ?_;refine AF.mono (dx _) ?_;rintro _ σ4 ⟨n,rfl,c5,T⟩;refine Z3 ?_;refine ya.o _ _ ⟨Al T,?_⟩;clear ya yb;refine Ai (i:=6) AH ?_;refine Am ?_;intro yb ya;refine Z3 ?_;refine ya.o _ _ ⟨Al T,?_⟩;clear ya yb;exact Aw AH ⟨rfl,n,c5,AG,AI,AI,T⟩
  rintro e s3 σ4 ⟨rfl,n,c5,g5,e0,e3,T⟩;have ca:=bv.keep T;have bc:σ4.C v=wc1:=by rw[T.C _ bv.lo,a4]
  have cj:=T.B;have az:σ4.C g.B=[my x.o,my x.h.nt,str x.h.B,sl M (Z x.h.A) (x.h.A.map str),sl id (Z x.A) b]:=by rw[T.C _ AA,a9]
  have ah:=cc.trans (KW.ofKeep T);clear dx a4 a9 aw cc f0 f3 E;rcases c5 with⟨rfl,af⟩|⟨j,b0,rfl,bu,br⟩
  ·have cv:decide ((-1:Int)<0)=true:=nr
   have d0:=λg=>oE x _ A cA ida b5 au hA.el d1 (λa L=>(hA.cl a L).2.2) g;refine mr ?_;refine A2 (Q:=λe s4 f=>e= .normal/\∃q,s4 69=my q/\(q=true↔∀a∈x.A,wT a∉A)/\s4 0=ptr v 0/\s4 3=ptr g.B 0/\AD σ4 f) ?_ ?_
   ·cases fz with
    |true=>
     have HB:AC (∀a∈x.A,wT a∉A):=λa L=>by have:=af a L;simp[Pt]at this
     refine Ar Ag (λ_=>True) [] [0,1,2,3,4,5,6,7,8,9] 3 (nv 13 1023) AH (λ_ _ _ h=>by cases h.1) ?_;intro yb ya;refine Z3 ?_;refine ya.o _ ?_;clear ya yb;refine Ai (i:=10) AH ?_;refine Am ?_;intro yb ya;refine Z3 ?_;refine ya.o _ _ ⟨kept_refl,?_⟩;clear ya yb;refine Df [11,12] AH AH (λ_ _ _ h=>by cases h.1) (AU _) (λo u _=>rfl) ?_;intro yb ya;refine Z3 ?_;refine ya.o _ _ ⟨rfl,true,AI,⟨λ_=>HB.o,λ_=>rfl⟩,AI,AI,AD.refl _⟩
    |false=>
     have hnt:∀a∈x.A,a.nt=true:=λa L=>by have:=af a L;simpa[Pt]using this
     refine Ar Ag (λ_=>True) [] [0,1,2,3,4,5,6,7,8,9] 3 (nv 13 1023) AH (λ_ _ _ h=>by cases h.1) ?_;intro yb ya;refine Z3 ?_;refine ya.o _ ?_;clear ya yb;refine Ai (i:=10) AH ?_;refine Am ?_;intro yb ya;refine Z3 ?_;refine AF.mono (d0 _) ?_;rintro _ D ⟨bo,rfl,dr,ay⟩;refine Z3 ?_;refine ya.o _ _ ⟨Al ay,?_⟩;clear ya yb;have d4:AC _:=dr;clear dr;refine Df [11,12] AH AH (λ_ _ _ h=>by cases h.1) ay.B (λo u _=>ay.ver o u) ?_;intro yb ya;refine Z3 ?_;refine ya.o _ _ ⟨rfl,!bo,AI,?_,AI,AI,ay⟩;cases bo with
     |true=>
      obtain⟨a,L,-,hm⟩:=d4.o.1 rfl;exact⟨λh=>(by cases h),λh=>absurd hm (h a L)⟩
     |false=>exact⟨λ_ a L hm=>(by have:=d4.o.2 ⟨a,L,hnt a L,hm⟩;cases this),λ_=>rfl⟩
   rintro e s4 D ⟨rfl,q,g69,hq,e0,e3,ay⟩;have ap:=ca.keep ay;have a3:D.C v=wc1:=by rw[ay.C _ ca.lo,bc]
   have ci:=ay.B;have a8:D.C g.B=[my x.o,my x.h.nt,str x.h.B,sl M (Z x.h.A) (x.h.A.map str),sl id (Z x.A) b]:=by rw[ay.C _ AA,az]
   have av:=ah.trans (KW.ofKeep ay);have bf:x.h∉A/\x.h∉O:=by
    have hg:=(lH hH.saf af).1;exact⟨λh=>(by have:=bq.o.2 ⟨hg,.inr h⟩;cases this),λh=>(by have:=bq.o.2 ⟨hg,.inl h⟩;cases this)⟩
   have Y:∀k:Nat,(q=true/\k=1\/q=false/\k=0)->N+1+Z O<=N+(Z O+k)+Hr c0 (Z A) p:=by
    intro k hk;rcases hk with⟨-,rfl⟩|⟨dj,rfl⟩
    ·omega
    have br:p=0:=by
     rw[<-hH.cnt,List.countP_eq_zero];intro a L;rw[af a L];simp
    rcases hH.neg with h'|h'
    ·rw[br,Hr,h'];omega
    exfalso;have:q=true:=hq.2 λa L=>by have h1:=h' a L;rw[af a L]at h1;cases h1
    rw[this]at dj;cases dj
   clear d0 cv T ay ca bc az ah;cases q with
   |false=>
    have K:AC (Ul fz A cA ida mo c0 p x v d O B N g D):=
     ⟨d,O,z,Bq,N+1,ap,av,by rw[db.o];exact eL hH.cl hnd AA hS hH.saf af bf (.inr ⟨λh=>(by have:=hq.2 h;cases this),rfl⟩),by have:=Y 0 (.inr ⟨rfl,rfl⟩);omega⟩
    first|refine De g69 ?_|(refine Iy ?_;refine De g69 ?_)
    refine mr ?_
    first|exact⟨_,rfl,K.o⟩|exact K.o
   |true=>
    have HI:AC (aE fz A mo x O (Sp B) (O++[x.h]) (Sp Bq)):=by
     rw[AC,db.o];exact eL hH.cl hnd AA hS hH.saf af bf (.inl ⟨hq.1 rfl,rfl⟩)
    have fa:=Y 1 (.inl ⟨rfl,rfl⟩);have ev:Live D d (Z O):=ap.rw'.1 (d,Z O) (by simp[Dv]);have cn:=EL.length A7 ap.oe;clear Y hq bf
    first|refine Cj g69 ?_|(refine Iy ?_;refine Cj g69 ?_)
    refine mr ?_;refine A2 (Q:=λe s5 f=>e= .normal/\Ul fz A cA ida mo c0 p x v d O B N g f) ?_ ?_
    ·refine Ar Ag (λ_=>True) [11] [0,1,2,3,4,5,6] 5 (nv 12 127) AH (λ_ _ _ h=>by cases h.1) ?_;intro yb ya;refine Z3 ?_;refine ya.o _ ?_;clear ya yb;refine Ai (i:=7) AH ?_;refine Am ?_;intro yb ya;refine Z3 ?_;refine ya.o _ _ ⟨Al ((AD.refl _).lay 1),?_⟩;clear ya yb;refine Ai (i:=8) AH ?_;refine Am ?_;intro yb ya;refine Z3 ?_;refine Ty (by first|exact It) ev nr (by rfl) cn (by rfl) (by rfl) nr AA AA ?_;intro idn σn ew ct cu ad ab ac aa etop;refine Z3 ?_;refine ya.o _ _ ⟨λ_ o u _=>by rw[ac],?_⟩;clear ya yb;have eow:σn.C v=wc1:=by rw[ad,a3]
     refine Ai (i:=9) AH ?_;refine Am ?_;intro yb ya;refine Z3 ?_;refine ya.o _ _ ⟨λ_ o u _=>by rw[ac],?_⟩;clear ya yb;refine Ai (i:=10) AH ?_;refine Am ?_;intro yb ya;refine Z3 ?_;refine ya.o _ _ ⟨λ_ o u _=>by rw[ac],?_⟩;clear ya yb;refine Ai (i:=11) AH ?_;refine Am ?_;intro yb ya;refine Z3 ?_;refine ya.o _ _ ⟨A3 rfl,?_⟩;clear ya yb;refine Aw AH ⟨rfl,?_⟩
     have b9:=FC.addO (σ':=σn.put v (wc1.set 3 (sl idn (Z O+1) (z++[my x.h.nt,str x.h.B,sl M (Z x.h.A) (x.h.A.map str)])))) (id':=idn) ap (a:=x.h) ⟨M,rfl⟩ ew ct cu (λo u bg=>by
      rw[show∀(S:St) c,(S.put v c).C o=S.C o from λS c=>by simp[St.put,bg],ad]) (λo u bg=>by
      rw[show∀(S:St) c,(S.put v c).ver o=S.ver o from λS c=>by simp[St.put,bg],ac]) (by simp only[Ac];omega) (by simp only[Nc];omega) (λj hj bg=>by rw[Og];exact etop j hj bg) (by rw[Ak,cf.o])
     exact⟨idn,O++[x.h],_,Bq,N+1,b9.1,av.trans b9.2,HI.o,by simp only[AX,BQ,CQ];omega⟩
    rintro e s5 σ6 ⟨rfl,K⟩;have K:AC _:=K;refine mr ?_
    first|exact⟨_,rfl,K.o⟩|exact K.o|exact⟨_,rfl⟩
  have cv:decide ((j:Int)<0)=false:=nk;have ed:0<p:=by
   rw[<-hH.cnt,MK];exact⟨b0,AY bu,br⟩
  obtain⟨q,rfl⟩:∃q,p=q+1:=⟨p-1,AA⟩;have ez:=IH q rfl;have cz:0<Z x.A:=by have:=(BA.1 bu).1;omega
  have cw:Hr c0 (Z A) (q+1)=1+Z A*Hr c0 (Z A) q:=rfl;have d2:AC (N9 fz A mo x j O (Sp B) 0 O (Sp Bq)):=by rw[AC,db.o];exact rM hH.cl cz hnd P hS
  have e6:=EL.length A7 hA.el;refine mr ?_
  refine Ae (λm s σ'=>∃(k l N':Nat) (G:oq) (H:oh) (B':BK),m=Z A-k/\k<=Z A/\s 0=ptr v 0/\s 3=ptr g.B 0/\s 5=ic j/\s 6=ic k/\FC σ' v ida (Z A) cA fz mo l G H B' N'/\KW v (Dv d (Z O) B) (Dv l (Z G) B') g σ'/\g.B<σ'.B/\σ'.C g.B=[my x.o,my x.h.nt,str x.h.B,sl M (Z x.h.A) (x.h.A.map str),sl id (Z x.A) b]/\N'+Z O<=N+1+Z G+k*Hr c0 (Z A) q/\(Z G:Int)<=mo+1/\AC (N9 fz A mo x j O (Sp B) k G (Sp B')/\∀a∈G,DX a)) (Z A)
   ⟨0,d,N+1,O,z,Bq,AA,AA,AI,AI,AI,AG,ca,ah,AA,az,AA,P,d2.o,hOc⟩ ?_
  clear cv T ca bc az ah bv dm di dl dk dh cf d2 bq b3 g5 e0 e3 cj bw;rintro m s D ⟨k,l,N',G,H,B',rfl,hk,h0,h3,h5,h6,ap,ah,cp,a8,eq,eu,bn⟩;have a3:=ap.ob;have eh:=ap.lo;have df:(C7 ida (Z A) cA fz mo l (Z G) H B')[0]?=some (sl ida (Z A) cA):=rfl;have de:(C7 ida (Z A) cA fz mo l (Z G) H B').head?=some (sl ida (Z A) cA):=rfl;have dd:=Jc (ida:=ida) (nA:=Z A) (cA:=cA) (fz:=fz) (mo:=mo) (ido:=l) (nO:=Z G) (oc:=H) ap.bl;generalize bb:C7 ida (Z A) cA fz mo l (Z G) H B'=wc2 at a3 df de dd;clear bb;have ci:=ah.B;by_cases cq:k<Z A
  ·have a5:=AK cq;have cd:=AR cq;obtain⟨it,r,hd⟩:=Ca hA.el a5;generalize A[k]=t at a5 cd hd;have ec:=(hA.cl t cd).2.2;have c8:=λg=>fV x _ j t _ b0 b5 ⟨it,rfl⟩ au bu ec g;have HG:AC (A[k]?=some t):=a5;clear a5
   refine mr ?_;refine A2 (Q:=λe s' f=>e= .normal/\s' 0=ptr v 0/\s' 3=ptr g.B 0/\s' 5=ic j/\s' 6=ic k/\AD D f/\∃y iy jy cy ok o7,s' 7=ptr o7 0/\s' 8=my ok/\EL Bf y.A cy/\NC x j t y ok/\D.B<=o7/\o7<f.B/\f.C o7=[my y.o,my y.h.nt,str y.h.B,sl iy (Z y.h.A) (y.h.A.map str),sl jy (Z y.A) cy]) ?_ ?_
   ·refine Ar Ag (λ_=>True) [] [0,1,2,3,4,5,6,7,8] 7 (nv 16 511) AH (λ_ _ _ h=>by cases h.1) ?_;intro yb ya;refine Z3 ?_;refine ya.o _ ?_;clear ya yb;refine D8 (rs:=[9,13]) AH nk ?_;intro i hi;simp only[BD,EK,DZ]at hi;rcases hi with rfl|rfl
    ·refine Am ?_;intro yb ya;refine Z3 ?_;refine AF.mono (c8 _) ?_;rintro _ σ6 ⟨y,cy0,ok,rfl,b4,b7,J⟩;obtain⟨iy,jy,cy,bi,rfl⟩:=b4.cells;unfold A4;refine Z3 ?_;refine ya.o _ _ ⟨Al J,?_⟩;clear ya yb;have a7:=J.B;refine Bu (i:=10) _ (tp [ag [my y.o,my y.h.nt,str y.h.B,sl iy (Z y.h.A) (y.h.A.map str),sl jy (Z y.A) cy],my ok]) rfl rfl rfl rfl rfl AH AH (λ_ _ _ h=>by cases h.1) (λo u _=>J.ver o u) ?_;refine Bu (i:=11) _ (ag [my y.o,my y.h.nt,str y.h.B,sl iy (Z y.h.A) (y.h.A.map str),sl jy (Z y.A) cy]) rfl rfl rfl rfl rfl AH AH (λ_ _ _ h=>by cases h.1) (λo u _=>J.ver o u) ?_;refine Bu (i:=12) _ (my ok) rfl rfl rfl rfl rfl AH AH (λ_ _ _ h=>by cases h.1) (λo u _=>J.ver o u) ?_;refine Ai (i:=13) AH ?_;refine Am ?_;intro yb ya;refine Z3 ?_;refine ya.o _ _ ⟨Al (J.new _),?_⟩;clear ya yb;refine Ai (i:=14) AH ?_;refine Am ?_;intro yb ya;refine Z3 ?_;refine ya.o _ _ ⟨Al ((J.new _).put AA _),?_⟩;clear ya yb;refine Ai (i:=15) AH ?_;refine Am ?_;intro yb ya;refine Z3 ?_;refine ya.o _ _ ⟨Al ((J.new _).put AA _),?_⟩;clear ya yb;refine Aw AH ⟨rfl,AI,AI,AI,AI,(J.new _).put AA _,y,iy,jy,cy,ok,σ6.B,AG,AG,bi,b7,AA,BJ,Ak⟩
    refine Am ?_;intro yb ya;refine Z3 ?_;refine ya.o _ _ ⟨Al ((AD.refl _).new _),?_⟩;clear ya yb;refine Ai (i:=9) AH ?_;refine Am ?_;intro yb ya;refine Z3 ?_;refine AF.mono (c8 _) ?_;rintro _ σ6 ⟨y,cy0,ok,rfl,b4,b7,J⟩;obtain⟨iy,jy,cy,bi,rfl⟩:=b4.cells;unfold A4;have ax:AD D σ6:=((AD.refl D).new _).trans J;have a7:=J.B;have ch:=J.C D.B AM;rw[Ao]at ch;simp only[Aa]at a7;refine Z3 ?_;refine ya.o _ _ ⟨Al ax,?_⟩;clear ya yb;refine Bu (i:=10) _ (tp [ag [my y.o,my y.h.nt,str y.h.B,sl iy (Z y.h.A) (y.h.A.map str),sl jy (Z y.A) cy],my ok]) rfl rfl rfl rfl rfl AH AH (λ_ _ _ h=>by cases h.1) (λo u _=>ax.ver o u) ?_;refine Bu (i:=11) _ (ag [my y.o,my y.h.nt,str y.h.B,sl iy (Z y.h.A) (y.h.A.map str),sl jy (Z y.A) cy]) rfl rfl rfl rfl rfl AH AH (λ_ _ _ h=>by cases h.1) (λo u _=>ax.ver o u) ?_;refine Bu (i:=12) _ (my ok) rfl rfl rfl rfl rfl AH AH (λ_ _ _ h=>by cases h.1) (λo u _=>ax.ver o u) ?_;refine Ai (i:=14) AH ?_;refine Am ?_;intro yb ya;refine Z3 ?_;refine ya.o _ _ ⟨Al (ax.put (AU _) _),?_⟩;clear ya yb;refine Ai (i:=15) AH ?_;refine Am ?_;intro yb ya;refine Z3 ?_;refine ya.o _ _ ⟨Al (ax.put (AU _) _),?_⟩;clear ya yb;refine Aw AH ⟨rfl,AI,AI,AI,AI,ax.put (AU _) _,y,iy,jy,cy,ok,D.B,AG,AG,bi,b7,AA,by simp only[Ac];omega,Ak⟩
   rintro e s' σ6 ⟨rfl,h0,h3,h5,h6,J,y,iy,jy,cy,ok,o7,h7,h8,b4,b7,e8,e9,ef⟩;have a7:=J.B;have dw:=ap.keep J;have av:=ah.trans (KW.ofKeep J);have cm:σ6.C g.B=[my x.o,my x.h.nt,str x.h.B,sl M (Z x.h.A) (x.h.A.map str),sl id (Z x.A) b]:=by rw[J.C _ cp,a8]
   obtain⟨d8,ee⟩:=b7;clear c8 a3 a8 ap ah df de dd hd J;rcases ee with⟨rfl,b8⟩|⟨rfl,b8⟩
   ·obtain⟨dz,bz⟩:=hH.step bu br (hA.gnd t cd) (hA.cl t cd) b8;have d9:AJ y [my y.o,my y.h.nt,str y.h.B,sl iy (Z y.h.A) (y.h.A.map str),sl jy (Z y.A) cy]:=⟨[my y.h.nt,str y.h.B,sl iy (Z y.h.A) (y.h.A.map str)],jy,cy,⟨iy,rfl⟩,b4,rfl⟩;have er:=λg=>Kg y _ j d9 d8.1 g;have da:AC (N9 fz A mo x j O (Sp B) k G (Sp B')):=bn.o.1;have d3:AC (∀a∈G,DX a):=bn.o.2;have eg:k*Hr c0 (Z A) q+Hr c0 (Z A) q<=Z A*Hr c0 (Z A) q:=by
     rw[<-If];exact GW _ cq
    have ey:∀c',AJ (C8 y j) c'->∀g,FC g v ida (Z A) cA fz mo l G H B' N'->ni 202 [ptr v 0,ag c'] g λr σ'=>Ul fz A cA ida mo c0 q (C8 y j) v l G B' N' g σ':=λc' cx g hW=>ez (C8 y j) c' cx dz v l G H B' N' g hW AA da.o.nd eu d3.o (by rw[bz];exact da.o.seen);clear bn
    repeat' first|refine Z1 ?_|refine Z8 λyb ya=>?_|refine Z4 ?_;clear ya yb|refine Z2 ?_ ?_<;>intro h ae<;>try exact Xp|refine Z6 ?_;intro idn σn ak am ad ab ac aa|(refine Z5 ?_;first|(refine Xi (er _) ?_;rintro _ _ ⟨c',rfl,cx,ax⟩;(have d6:=ax.B;have e4:=ey c' cx))|(refine Xi (e4 _ (dw.keep (Xs))) ?_;rintro _ _ ⟨ido2,O2,oc2,B2q,N2,et,bp,c7,fb⟩))|refine Z3 ?_|exact Zt|apply ya.o;clear ya yb
    rename_i σ8 σ9;have c6:=(av.trans (KW.ofKeep ax)).trans bp;have bg:g.B≠v:=AA;have ea:σ9.C g.B=[my x.o,my x.h.nt,str x.h.B,sl M (Z x.h.A) (x.h.A.map str),sl id (Z x.A) b]:=by rw[bp.C _ AA bg,ax.C _ AA,cm]
    have d5:=bp.B;have HN:AC (N9 fz A mo x j O (Sp B) (k+1) O2 (Sp B2q)/\∀a∈O2,DX a):=⟨yC hA.gnd hH.cl.1 bu br da.o HG.o b8 c7 bz,ZL hA dz d3.o c7⟩;have bh:N2+Z O<=N+1+Z O2+(k+1)*Hr c0 (Z A) q:=by rw[If];omega
    have fc:=c7.len;refine⟨Z A-(k+1),AA,k+1,ido2,N2,O2,oc2,B2q,?_⟩
    ((repeat' refine Zi ?_ ?_)<;>first|exact Xq|exact HN|exact et|exact c6|exact bh|exact Xs)
   have HN:AC (N9 fz A mo x j O (Sp B) (k+1) G (Sp B')/\∀a∈G,DX a):=⟨yD bn.o.1 HG.o b8,bn.o.2⟩;have bh:N'+Z O<=N+1+Z G+(k+1)*Hr c0 (Z A) q:=by rw[If];omega
   clear b8;refine mr ?_;refine⟨Z A-(k+1),AA,k+1,l,N',G,H,B',?_⟩
   ((repeat' refine Zi ?_ ?_)<;>first|exact Xq|exact HN|exact dw|exact av|exact bh|exact Xs)
  have ej:k=Z A:=AA;subst ej
  have K:AC (Ul fz A cA ida mo c0 (q+1) x v d O B N g D):=
   ⟨l,G,H,B',N',ap,ah,WC hA.gnd hH.cl bu br hS bn.o.1,by rw[cw];omega⟩
  clear bn ap ah;refine mr ?_
  first|exact⟨_,rfl,K.o⟩|exact K.o|exact⟨_,rfl⟩
structure KH (io:Nat)(σ σ':St):Prop where
 B:σ.B<=σ'.B
 C:∀o,o<σ.B->σ'.C o=σ.C o
 ver:∀o,o<σ.B->σ'.ver o=σ.ver o
 D:σ.D<=σ'.D
 top:∀k,k<σ.D->k+2≠io->σ'.top k=σ.top k
structure iO (fz:Bool)(A:oq)(mo:Int)(x:AB)(O O':oq):Prop where
 ext:∃nw,O'=O++nw/\∀h∈nw,U1 fz A x h/\h∉A
 nd:O'.Nodup
 len:(Z O':Int)<=mo+1
 done:(Z O':Int)<=mo->CM fz A O' x
def JL:BK:=List.replicate 4096 (1,[])
def XU (s):¬Sp JL s:=by
 rintro⟨x,a,b⟩;have:x=(1,[]):=by
  have:=AY a;exact (IN.1 this).2
 subst this;simp at b
def yL (fz A cA ida mo c0)(c:H3 A cA)(b:0<=mo)(a:mo<=900):∀p,OX fz A cA ida mo c0 p:=by
 intro p;induction p with
 |zero=>exact eK fz A cA ida mo c0 c b a 0 (λq h=>AA)
 |succ p d=>exact eK fz A cA ida mo c0 c b a (p+1) (λq h=>by have:p=q:=AA;subst this;exact d)
def FC.outs {b ow ida nA cA fz mo ido O oc B N}(h:FC b ow ida nA cA fz mo ido O oc B N):∃a:oh,b.C ow=a/\a[3]?=some (sl ido (Z O) oc)/\Z a=4100:=⟨_,h.ob,rfl,Jc h.bl⟩
def wJ {ida nA cA fz mo ido nO oc}:(((((OC.map cst1).set 0 (sl ida nA cA)).set 1 (my fz)).set 3 (sl ido nO oc)).set 2 (ic mo))=C7 ida nA cA fz mo ido nO oc JL:=by
 have e:OC.map cst1=nilS::my false::ic 0::nilS::List.replicate 4096 nilS:=by
  unfold OC;rw[EU,List.map_replicate];rfl
 rw[e];unfold C7 Q2 JL;rw[List.map_replicate];rfl
def ji (σ){ido nO}(h:Live σ ido nO):JB σ (Dv ido nO JL):=by
 have b:∀x∈JL.map (λx:Nat×ol=>(x.1,Z x.2)),x=(1,0):=λx a=>by
  obtain⟨y,c,rfl⟩:=AN.1 a;rw[(IN.1 c).2];rfl
 refine⟨λx a=>?_,λi j x y a c d=>?_⟩;rcases BD.1 a with rfl|a;exact h;rw[b x a];exact .inl ⟨rfl,rfl⟩;cases i with
 |zero=>
  cases j with
  |zero=>omega
  |succ j=>
   have:=b y (AY (i:=j) (by simpa[Dv]using c));subst this;by_cases e:x.1=1;exact .inl e;exact .inr e
 |succ i=>
  have:=b x (AY (i:=i) (by simpa[Dv]using a));subst this;exact .inl rfl
def dL {ido nO x}(h:x∈Dv ido nO JL):x.1=ido\/x.1=1:=by
 rcases BD.1 h with rfl|h;exact .inl rfl;obtain⟨y,a,rfl⟩:=AN.1 h;rw[(IN.1 a).2];exact .inr rfl
def sA (fz A cA ida mo c0 p)(M:H3 A cA)(s:0<=mo)(q:mo<=900)(x c)(E:AJ x c)(S:CJ fz c0 p x)(v:Hr c0 (Z A) p+2002<=1000000000000)(O oc ido)(I:EL Bf O oc)(u:∀a∈O,DX a)(t:O.Nodup)(m:(Z O:Int)<=mo+1)(σ)(Q:Live σ ido (Z O)):
  ni 169 [ag c,sl ida (Z A) cA,my fz,sl ido (Z O) oc,ic mo] σ λr σ'=>∃d f g,r=sl d (Z f) g/\EL Bf f g/\Live σ' d (Z f)/\(d=ido\/d=1\/σ.D+2<=d)/\KH ido σ σ'/\iO fz A mo x O f:=by
 have D:=E;obtain⟨F,id,b,Y,rfl⟩:=E.cells;unfold A4;unfold A4 at D
 have C:FC ((σ.new [my x.o,my x.h.nt,str x.h.B,sl F (Z x.h.A) (x.h.A.map str),sl id (Z x.A) b]).new (((((OC.map cst1).set 0 (sl ida (Z A) cA)).set 1 (my fz)).set 3 (sl ido (Z O) oc)).set 2 (ic mo))) (σ.B+1) ida (Z A) cA fz mo ido O oc JL 0:=
  ⟨by rw[Be AM AM];exact wJ,AM,by simp[JL],I,ji _ Q,λy l=>by rw[(IN.1 l).2];simp⟩
 have G:=yL fz A cA ida mo c0 M s q p x _ D S (σ.B+1) ido O oc JL 0 _ C AA t m u (λy _ _ L=>absurd L (XU _));clear C;refine Z9 25 [.tmp 10] Tryz.func169 ?_;refine m0 ?_;intro yb ya;refine Xi (G) ?_;rintro _ _ ⟨d,f,g,W,U,z,i,n,av⟩;(obtain⟨N,V,ap,ao⟩:=z.outs;have R:=i.B;simp only[Aa]at R);refine mr ?_;rename_i j;have H:Live j d (Z f):=z.rw'.1 (d,Z f) (by simp[Dv]);have B:d=ido\/d=1\/σ.D+2<=d:=by
  rcases i.mid (d,Z f) (by simp[Dv])with⟨y,l,e⟩|e|e;rcases dL l with h|h;exact .inl (e.symm.trans h);exact .inr (.inl (e.symm.trans h));exact .inr (.inl e);exact .inr (.inr e)
 have T:KH ido σ j:=
  ⟨AA,λo P=>by rw[i.C o AM AA,Ah AM,Ah AA],λo P=>by rw[i.ver o AM AA];rfl,i.D,λk J X=>i.top k J (λy l e=>by
   rcases dL l with h|h<;>omega)⟩
 have K:iO fz A mo x O f:=⟨n.ext,n.nd,n.len,n.done⟩;exact⟨_,rfl,d,f,g,rfl,z.oe,H,B,T,K⟩
def NN (fz:Bool)(l:n0)(b:oq)(C:AE->Prop):Prop:=(∀a∈b,C a)/\∀c:oq,(∀a∈c,C a)->(∀a∈b,a∈c)->∀x∈l,∀h,U1 fz c x h->C h
structure wE (fz:Bool)(l:n0)(giv:oq)(limit:Nat)(A:oq):Prop where
 gv:∀a∈giv,a∈A
 nd:A.Nodup
 len:Z A<=limit
 cl:∀x∈l,CM fz A [] x
 least:∀C,NN fz l giv C->∀a∈A,C a
def pD (fz:Bool)(l:n0)(c:oq)(b:Nat):Prop:=∀C,NN fz l c C->∃L:oq,L.Nodup/\b<Z L/\∀a∈L,C a
def iM (fz:Bool)(b:Nat)(x:AB):Prop:=∃c p,CJ fz c p x/\∀a,a<=b->Hr c a p+2002<=1000000000000
def Own.ofLive {σ0 b σ' e a n d}(f:AD σ0 b)(i:Own σ0 b e n)(g:Live σ' a d)(c:a=e\/a=1\/b.D+2<=a):Own σ0 σ' a d:=by
 rcases g with h|⟨k,e1,e2,e3,e4⟩;exact .inl h;refine .inr ⟨k,e1,?_,e2,e3,e4⟩;rcases c with h|h|h;rcases i with⟨j,-⟩|⟨k',f1,f2,-⟩;omega;omega;omega;have:=f.D;omega
def AD.kh {σ0 c σ' d n}(a:AD σ0 c)(g:Own σ0 c d n)(h:KH d c σ'):AD σ0 σ':=
 ⟨BI a.B h.B,λo b=>(h.C o (BZ b a.B)).trans (a.C o b),λo b=>(h.ver o (BZ b a.B)).trans (a.ver o b),BI a.D h.D,λk f=>(h.top k (BZ f a.D) (λe=>by
  rcases g with⟨i,-⟩|⟨k',f1,f2,-⟩<;>omega)).trans (a.top k f)⟩
def Own.kh {σ0 c σ'}{a b n m:Nat}(d:Own σ0 c a n)(f:a=1\/b=1\/a≠b)(h:KH b c σ'):Own σ0 σ' a n:=by
 rcases d with e|⟨k,f1,f2,f3,f4,f5⟩;exact .inl e;refine .inr ⟨k,f1,f2,BZ f3 h.D,?_,f5⟩;rw[h.top k f3 AA];exact f4
def Own.apart {σ0 e b c a n}(f:Own σ0 e b n)(g:b=1\/c=1\/b≠c)(d:a=c\/a=1\/e.D+2<=a):b=1\/a=1\/b≠a:=by
 rcases d with rfl|h|h;exact g;exact .inr (.inl h);rcases f with⟨i,-⟩|⟨k,f1,f2,f3,-⟩;exact .inl i;exact .inr (.inr AA)
structure GD (fz:Bool)(l:n0)(giv:oq)(A:oq)(cA:oh):Prop where
 el:EL Bf A cA
 gnd:∀a∈A,aI a
 cl:∀a∈A,DX a
 nd:A.Nodup
 gv:∀a∈giv,a∈A
 least:∀C,NN fz l giv C->∀a∈A,C a
structure GO (fz:Bool)(l:n0)(A:oq)(mo:Int)(i:Nat)(O:oq)(oc:oh):Prop where
 el:EL Bf O oc
 cl:∀a∈O,DX a
 nd:O.Nodup
 new:∀h∈O,h∉A/\∃x∈l,U1 fz A x h
 done:(Z O:Int)<=mo->∀x∈l.take i,CM fz A O x
def GO.step {fz l A cA mo i O j oc d x t p}(q:H3 A cA)(r:CJ fz t p x)(h:GO fz l A mo i O oc)(m:l[i]?=some x)(g:iO fz A mo x O j)(s:EL Bf j d):GO fz l A mo (i+1) j d:=by
 obtain⟨u,e,f⟩:=g.ext;have o:=AY m;refine⟨s,λa c=>?_,g.nd,λa c=>?_,λk y n=>?_⟩;rw[e]at c;rcases AW.1 c with b|b;exact h.cl a b;exact QR q r (f a b).1;rw[e]at c;rcases AW.1 c with b|b;exact h.new a b;exact⟨(f a b).2,x,o,(f a b).1⟩;rw[AT,m]at n;rcases AW.1 n with b|b;exact (h.done (by rw[e]at k;simp at k;omega) y b).mono λa c=>by rw[e];exact GK _ c
 simp at b;subst b;exact g.done k
def GD.A {fz l a A cA}(h:GD fz l a A cA)(b:Z A<=1000):H3 A cA:=⟨h.el,b,h.gnd,h.cl⟩
def GD.grow {fz l j A O cA oc o mo i f}(h:GD fz l j A cA)(u:Z A<=1000)(q:∀x∈l,iM fz f x)(g:GO fz l A mo i O oc)(t:EL Bf (A++O) o):GD fz l j (A++O) o:=by
 refine⟨t,λa d=>?_,λa d=>?_,?_,λa d=>GK _ (h.gv a d),λC m a d=>?_⟩;rcases AW.1 d with c|c;exact h.gnd a c;obtain⟨-,x,k,n⟩:=g.new a c;obtain⟨v,p,r,-⟩:=q x k;exact XJ h.gnd r.saf n;rcases AW.1 d with c|c;exact h.cl a c;exact g.cl a c;rw[IP];exact⟨h.nd,g.nd,λa d b s e=>(g.new b s).1 (e ▸ d)⟩;rcases AW.1 d with c|c;exact h.least C m a c;obtain⟨-,x,k,n⟩:=g.new a c;exact m.2 A (h.least C m) h.gv x k a n
def RR (fz:Bool)(l:n0)(b:oq)(a:Nat)(r:AV):Prop:=(∃A c d,r=tp [sl c (Z A) d,my true]/\H3 A d/\wE fz l b a A)\/(r=tp [nilS,my false]/\pD fz l b a)
def fR (fz l cs idl giv cg idg limit)(hl:EL AJ l cs)(cz:Z l<=1000)(hg:H3 giv cg)(b6:limit<=900)(c5:Z giv<=limit)(hr:∀x∈l,iM fz limit x)(c):
  ni 116 [sl idl (Z l) cs,sl idg (Z giv) cg,my fz,ic limit] c λr σ'=>RR fz l giv limit r/\AD c σ':=by
 have c6:=EL.length Cf hl;have b9:=EL.length A7 hg.el;refine Z9 96 [.tmp 8,.tmp 9] Tryz.func116 ?_;refine mr ?_
 refine Ae (λm s σ'=>∃(i f:Nat) (A:oq) (d:oh),m=Z giv-i/\i<=Z giv/\s 0=sl idl (Z l) cs/\s 1=sl idg (Z giv) cg/\s 2=my fz/\s 3=ic limit/\s 10=sl f (Z A) d/\s 11=ic i/\AD c σ'/\Own c σ' f (Z A)/\Z d=Z A*3/\Z A<=i/\AC (EL Bf A d/\A.Nodup/\∀a,a∈A↔a∈giv.take i)) (Z giv)
  ⟨0,1,[],[],AA,AA,by simp[upd,AL],by simp[upd,AL],by simp[upd,AL],by simp[upd,AL],AG,AG,AD.refl _,Own.nil _ _,rfl,nk,rfl,GN,nk⟩ ?_
 rintro m s σ' ⟨i,f,A,d,rfl,hi,W,V,E,F,Y,cv,n,u,a3,ct,H⟩;by_cases X:i<Z giv
 ·have o:=AK X;have a4:=AR X;obtain⟨B,r,hd⟩:=Ca hg.el o;generalize giv[i]=w at o a4 hd;have cr:∀a∈A,Z a.A<=1000:=λa t=>(hg.cl a (JI ((H.o.2.2 a).1 t))).2.2;have J:=λc=>Gt A d f w _ H.o.1 ⟨B,rfl⟩ AA cr c;have bz:AC (giv.take (i+1)=giv.take i++[w]):=by rw[AC,AT,o,BN]
  clear o;by_cases av:w∈A
  ·have J:∀c,ni 154 [sl f (Z A) d,ag [my w.nt,str w.B,sl B (Z w.A) (w.A.map str)]] c λr σ'=>r=my true/\AD c σ':=λc=>(J c).mono λr σ' ⟨b,V,E,F⟩=>⟨by rw[V,E.2 av],F⟩
   have P:AC (EL Bf A d/\A.Nodup/\∀a,a∈A↔a∈giv.take (i+1)):=⟨H.o.1,H.o.2.1,λa=>by
    rw[bz.o,AW,<-H.o.2.2 a,FY]
    exact⟨.inl,λh=>h.elim id λe=>e ▸ av⟩⟩
   clear av H;refine m0 ?_;intro yb ya;refine Xi (J _) ?_;rintro _ _ ⟨rfl,N⟩;refine mr ?_;refine⟨Z giv-(i+1),AA,i+1,f,A,d,?_⟩;exact ng P (n.trans N) (Own.keep u N)
  have J:∀c,ni 154 [sl f (Z A) d,ag [my w.nt,str w.B,sl B (Z w.A) (w.A.map str)]] c λr σ'=>r=my false/\AD c σ':=λc=>(J c).mono λr σ' ⟨b,V,E,F⟩=>⟨by
   cases b with
   |false=>exact V
   |true=>exact absurd (E.1 rfl) av,F⟩
  have P:AC (EL Bf (A++[w]) (d++[my w.nt,str w.B,sl B (Z w.A) (w.A.map str)])/\(A++[w]).Nodup/\∀a,a∈A++[w]↔a∈giv.take (i+1)):=⟨EL.append H.o.1 (EL.single ⟨B,rfl⟩),by
    rw[IP];exact⟨H.o.2.1,nk,λa t b hb e=>av (by rw[FY]at hb;rw[<-hb,<-e];exact t)⟩,λa=>by
   rw[bz.o,AW,AW,<-H.o.2.2 a]⟩
  clear av H;refine m0 ?_;intro yb ya;refine Xi (J _) ?_;rintro _ _ ⟨rfl,N⟩;(have cn:=n.trans N;have cd:=Own.keep u N);refine m5 ?_;intro yb ya;intro U σn ah ak af ab ae aa;refine mr ?_;refine⟨Z giv-(i+1),AA,i+1,U,A++[w],d++[my w.nt,str w.B,sl B (Z w.A) (w.A.map str)],?_⟩
  ((repeat' refine Zi ?_ ?_)<;>first|exact Xq|exact P|exact (by rw[AX];exact ah)|exact Xs)
 have bd:i=Z giv:=AA;subst bd;have b1:AC (GD fz l giv A d):=by
  obtain⟨e1,e2,e3⟩:=H.o;rw[AS]at e3;exact⟨e1,λa t=>hg.gnd a ((e3 a).1 t),λa t=>hg.cl a ((e3 a).1 t),e2,λa t=>(e3 a).2 t,λC hC a t=>hC.1 a ((e3 a).1 t)⟩
 have a7:Z A<=limit:=AA;clear H ct hi;refine mr ?_
 refine Ae (λm s σ'=>∃(r f:Nat) (A:oq) (d:oh),m=limit+1-r/\r<=limit+1/\s 0=sl idl (Z l) cs/\s 2=my fz/\s 3=ic limit/\s 10=sl f (Z A) d/\s 12=ic r/\AD c σ'/\Own c σ' f (Z A)/\Z d=Z A*3/\Z A<=limit/\r<=Z A/\AC (GD fz l giv A d)) (limit+1)
  ⟨0,f,A,d,AA,AA,AI,AI,AI,AI,AG,n,u,a3,a7,AA,b1.o⟩ ?_
 clear W V E F Y cv n u a3 b1 a7 X;rintro m s σ1 ⟨r,f,A,d,rfl,cw,W,E,F,Y,a8,n,u,a3,a7,cx,hS⟩;have bm:r<=limit:=AA;have bu:H3 A d:=hS.o.A AA;obtain⟨y,bb⟩:∃y:Int,y=(limit:Int)-(Z A:Int):=⟨_,rfl⟩;have ba:0<=y:=AA;have a9:y<=900:=AA;have db:AC _:=bb;have b3:(limit:Int)-(Z A:Int)=y:=bb.symm;have cy:y<=(limit:Int)-(Z A:Int)/\(limit:Int)-(Z A:Int)<=y:=AA;clear bb;refine mr ?_
 refine Ae (λm s σ'=>∃(i M:Nat) (O:oq) (oc:oh),m=Z l-i/\i<=Z l/\s 0=sl idl (Z l) cs/\s 2=my fz/\s 3=ic limit/\s 10=sl f (Z A) d/\s 12=ic r/\s 13=ic (Z A)/\s 14=sl M (Z O) oc/\s 15=ic i/\AD c σ'/\Own c σ' f (Z A)/\Own c σ' M (Z O)/\(f=1\/M=1\/f≠M)/\(Z O:Int)<=y+1/\AC (GO fz l A y i O oc)) (Z l)
  ⟨0,1,[],[],AA,AA,AI,AI,AI,AI,AI,AI,AG,AG,n,u,Own.nil _ _,.inr (.inl rfl),by simp;omega,rfl,nk,GN,nk,λ_ x hx=>by simp at hx⟩ ?_
 clear W E F Y a8 n u;rintro m s σ2 ⟨i,M,O,oc,rfl,hi,W,E,F,Y,a8,bw,bv,cu,n,u,a5,bg,ce,I⟩;by_cases X:i<Z l
 ·have o:=AK X;obtain⟨ih,id,b,rr,hb,hd⟩:=Cv hl o;have bh:=hr _ (AR X);generalize l[i]=x at o bh hd hb;obtain⟨c0,p,bq,bo⟩:=bh;have T:=bo (Z A) a7;have cq:=λc (hL:Live c M (Z O))=>sA fz A d f y c0 p bu ba a9 x [my x.o,my x.h.nt,str x.h.B,sl ih (Z x.h.A) (x.h.A.map str),sl id (Z x.A) b] ⟨[my x.h.nt,str x.h.B,sl ih (Z x.h.A) (x.h.A.map str)],id,b,⟨ih,rfl⟩,hb,rfl⟩ bq T O oc M I.o.el I.o.cl I.o.nd ce c hL;have ci:Live σ2 M (Z O):=by
   rcases a5 with h|⟨k,f1,f2,f3,f4,f5⟩
   ·exact .inl h
   exact .inr ⟨k,f1,f3,f4,f5⟩
  have b0:AC (∀S v,iO fz A y x O S->EL Bf S v->GO fz l A y (i+1) S v):=λS v g he=>GO.step bu bq I.o o g he;clear o bo;refine m0 ?_;intro yb ya;refine Xi (cq _ ci) ?_;rintro _ _ ⟨io',S,v,rfl,br,cm,az,a0,ap⟩;(have P:AC _:=b0.o S v ap br;have ay:=ap.len;clear b0 br ap);refine mr ?_;rename_i σ3;have cp:=AD.kh n a5 a0;have ch:=Own.kh (m:=0) u bg a0;have cf:=Own.ofLive n a5 cm az;have bf:=Own.apart u bg az;refine⟨Z l-(i+1),AA,i+1,io',S,v,?_⟩
  ((repeat' refine Zi ?_ ?_)<;>first|exact Xq|exact P|exact cp|exact ch|exact cf|exact bf|exact ay|exact Xs)
 have bd:i=Z l:=AA;subst bd;have b5:=EL.length A7 I.o.el;have bp:Z A+Z O<=limit+1:=AA;refine mr ?_
 refine Ae (λm s σ'=>∃(q j:Nat) (L:oq) (G:oh),m=Z O-q/\q<=Z O/\s 0=sl idl (Z l) cs/\s 2=my fz/\s 3=ic limit/\s 10=sl j (Z L) G/\s 12=ic r/\s 13=ic (Z A)/\s 14=sl M (Z O) oc/\s 16=ic q/\AD c σ'/\Own c σ' j (Z L)/\Z G=Z L*3/\Z L<=Z A+q/\Z A+q<=Z L/\AC (L=A++O.take q/\EL Bf L G)) (Z O)
  ⟨0,f,A,d,AA,AA,AI,AI,AI,AI,AI,AI,AI,AG,n,u,a3,AA,AA,nk,hS.o.el⟩ ?_
 clear W E F Y a8 bw bv cu n u a5 bg;rintro m s σ3 ⟨q,j,L,G,rfl,hq,W,E,F,Y,a8,bw,bv,da,n,u,c7,c9,c8,Q⟩;by_cases bc:q<Z O
 ·have o:=AK bc;have a4:=AR bc;obtain⟨B,rr,hd⟩:=Ca I.o.el o;generalize O[q]=w at o a4 hd;have cj:∀a∈L,Z a.A<=1000:=λa t=>by
   rw[Q.o.1]at t;rcases AW.1 t with D|D
   ·exact (hS.o.cl a D).2.2
   exact (I.o.cl a (JI D)).2.2
  have bi:w∉L:=by
   rw[Q.o.1];intro h;rcases AW.1 h with D|D
   ·exact (I.o.new w a4).1 D
   obtain⟨z,hz⟩:=CL D;have b2:=(BA.1 hz).1;rw[CN]at b2;rw[GF,if_pos AA]at hz;have:=(List.getElem?_inj bc I.o.nd).1 (o.trans hz.symm);omega
  have J:=λc=>Gt L G j w _ Q.o.2 ⟨B,rfl⟩ AA cj c
  have J:∀c,ni 154 [sl j (Z L) G,ag [my w.nt,str w.B,sl B (Z w.A) (w.A.map str)]] c λr σ'=>r=my false/\AD c σ':=λc=>(J c).mono λr σ' ⟨b,V,E,F⟩=>⟨by
   cases b with
   |false=>exact V
   |true=>exact absurd (E.1 rfl) bi,F⟩
  have b8:(Z L:Int)<=(limit:Int):=AA;have b7:decide ((Z L:Int)<=(limit:Int))=true:=nn b8;have P:AC (L++[w]=A++O.take (q+1)/\EL Bf (L++[w]) (G++[my w.nt,str w.B,sl B (Z w.A) (w.A.map str)])):=⟨by rw[AT,o,Q.o.1];simp,EL.append Q.o.2 (EL.single ⟨B,rfl⟩)⟩;clear o bi;refine m0 ?_;intro yb ya;refine Xi (J _) ?_;rintro _ _ ⟨rfl,N⟩;(have cn:=n.trans N;have cd:=Own.keep u N);refine m5 ?_;intro yb ya;intro U σn ah ak af ab ae aa;refine mr ?_;refine⟨Z O-(q+1),AA,q+1,U,L++[w],G++[my w.nt,str w.B,sl B (Z w.A) (w.A.map str)],?_⟩
  ((repeat' refine Zi ?_ ?_)<;>first|exact Xq|exact P|exact (by rw[AX];exact ah)|exact Xs)
 have b4:q=Z O:=AA;subst b4;have K:L=A++O:=by have:=Q.o.1;rw[AS]at this;exact this
 have R:AC (GD fz l giv L G):=by
  rw[K];exact hS.o.grow AA hr I.o (by rw[<-K];exact Q.o.2)
 by_cases be:limit<Z L
 ·have cc:decide ((Z L:Int)>(limit:Int))=true:=by simp;omega
  have cb:decide ((limit:Int)<(Z L:Int))=true:=by simp;omega
  have HR:AC (pD fz l giv limit):=λC hC=>⟨L,R.o.nd,be,R.o.least C hC⟩;clear K;refine mr ?_
  first|exact⟨_,rfl,.inr ⟨rfl,HR.o⟩,n⟩|exact⟨_,rfl,.inr ⟨rfl,HR.o⟩⟩
 have cc:decide ((Z L:Int)>(limit:Int))=false:=by simp;omega
 have cb:decide ((limit:Int)<(Z L:Int))=false:=by simp;omega
 by_cases hz:Z O=0
 ·have a6:O=[]:=GG hz;have he:((Z L:Int)==(Z A:Int))=true:=by rw[K,a6];simp
  have HR:AC (RR fz l giv limit (tp [sl j (Z L) G,my true])):=.inl ⟨L,j,G,rfl,R.o.A AA,R.o.gv,R.o.nd,AA,λx hx h hs=>by
   have ca:=I.o.done (by rw[hz];omega) x (by rw[AS];exact hx);have ck:L=A:=by rw[K,a6,EJ]
   rw[ck]at hs⊢;rcases ca h hs with D|D
   ·exact .inl D
   rw[a6]at D;exact .inr D,R.o.least⟩
  clear K a6;refine mr ?_
  first|exact⟨_,rfl,HR.o,n⟩|exact⟨_,rfl,HR.o⟩
 have he:((Z L:Int)==(Z A:Int))=false:=by rw[K];simp;omega
 have bn:Z A+1<=Z L:=by rw[K];simp;omega
 clear K;refine mr ?_;refine⟨limit+1-(r+1),AA,r+1,j,L,G,?_⟩;exact m9 R
end Go.Proofs.YtmoeoppbmhfbpabGreatDoorJ
