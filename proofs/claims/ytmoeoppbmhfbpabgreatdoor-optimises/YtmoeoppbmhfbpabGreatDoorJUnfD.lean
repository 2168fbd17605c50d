import Derived.Test.YtmoeoppbmhfbpabGreatDoorJUnfA
import Derived.Test.YtmoeoppbmhfbpabGreatDoorJAgrB
import Derived.Test.YtmoeoppbmhfbpabGreatDoorJFolB
import Derived.Test.YtmoeoppbmhfbpabGreatDoorJPrtP
import Derived.Test.YtmoeoppbmhfbpabGreatDoorJOptE
set_option maxHeartbeats 64000000
set_option maxRecDepth 100000
set_option linter.all false
open List renaming length->Z
namespace Go.Proofs.YtmoeoppbmhfbpabGreatDoorJ
open Go.Abs
def lN (l:List Int)(a:Dx):Dx:=⟨a.p,a.ts.map (G8 l)⟩
def JS (l:List Int)(x:Lit):Lit:=⟨x.neg,lN l x.a⟩
def Fa (r:E3):E3:=⟨lN (Fc r) r.h,r.A.map (JS (Fc r))⟩
def bJ {r}(c:LP r):Z (Fc r)<=1000:=by
 have g:=Fs (l:=Hs r) λa b=>by
  rcases BD.1 b with rfl|b;exact c.h3;obtain⟨l,d,rfl⟩:=AN.1 b;exact c.b3 l d
 have e:=c.bl;have f:Z (Hs r)=Z r.A+1:=by simp[Hs]
 unfold Fc;omega
def xQ (r c)(hc:T1 false r c)(y:LP r)(z):
  ni 93 [ag c] z λx g=>(∃c',x=ag c'/\T1 false (Fa r) c')/\AD z g:=by
 have V:=λz=>Mk r c hc y z;have bb:=bJ y;have bh:=y.bl;obtain⟨K,id,b,rfl,hb⟩:=hc;have bg:=EL.length Hk hb;unfold Fa;generalize Fc r=j at V bb;have a6:=λd z=>Oy j d r.h.p K r.h.ts AA (by have:=y.h3;omega) z;have a7:=λd (a:Lit) G (ha:a∈r.A) z=>Oy j d a.a.p G a.a.ts AA (by have:=y.b3 a ha;omega) z;refine Z9 39 [.cell 2 125] Tryz.func93 ?_;refine m0 ?_;intro yb ya;refine Xi (V _) ?_;rintro _ _ ⟨⟨d,rfl⟩,P⟩;(have L:=P.C;have ao:=P.B;simp only[Aa]at ao);refine mr ?_;rename_i B;have H:B.C z.B=[my false,ic r.h.p,sl K (Z r.h.ts) (Ad r.h.ts),sl id (Z r.A) b]:=by
  rw[L _ AM,Ah AM,Ao]
 have C:B.C (z.B+1)=[my false,ic 0,nilS,nilS]:=by
  rw[L _ AM,Be (by rw[Aa];omega) (by rw[Aa];omega)]
 have J:AD z B:=Xs;clear L P;refine A2 (Q:=λe s g=>e= .normal/\∃o l:Nat,s 1=ptr z.B 0/\s 2=ptr (z.B+1) 0/\s 3=sl d (Z j) (As j)/\s 4=ptr o 0/\z.B+1<o/\o<g.B/\g.C z.B=[my false,ic r.h.p,sl K (Z r.h.ts) (Ad r.h.ts),sl id (Z r.A) b]/\g.C (z.B+1)=[my false,ic 0,nilS,nilS]/\g.C o=[my false,ic r.h.p,sl l (Z r.h.ts) (Ad (r.h.ts.map (G8 j))),nilS]/\AD z g) ?_ ?_
 ·refine Ar Ag (λ_=>True) [8] [0,1,2,3,4] 4 (nv 9 31) AH (λ_ _ _ h=>by cases h.1) ?_;intro yb ya;refine Z3 ?_;refine ya.o _ ?_;clear ya yb;have u:=λz=>a6 d z;refine D8 (rs:=[5,7]) AH nk ?_;intro i v;simp only[BD,EK,DZ]at v;rcases v with rfl|rfl
  ·refine Am ?_;intro yb ya;refine Z3 ?_;refine AF.mono (u _) ?_;rintro _ F ⟨⟨l,rfl⟩,f⟩;have q:=f.C;have an:=f.B;refine Z3 ?_;refine ya.o _ _ ⟨Al f,?_⟩;clear ya yb;refine D8 (rs:=[6,7]) AH nk ?_;intro i v;simp only[BD,EK,DZ]at v;rcases v with rfl|rfl
   ·refine Am ?_;intro yb ya;refine Z3 ?_;refine ya.o _ _ ⟨Al f,?_⟩;clear ya yb;refine Ai (i:=7) AH ?_;refine Am ?_;intro yb ya;refine Z3 ?_;refine ya.o _ _ ⟨Al (f.new _),?_⟩;clear ya yb;refine Ai (i:=8) AH ?_;refine Am ?_;intro yb ya;refine Z3 ?_;refine ya.o _ _ ⟨A3 rfl,?_⟩;clear ya yb;refine Aw AH ⟨rfl,F.B,l,AG,AG,AG,AG,AA,BJ,?_,?_,Ak,?_⟩
    ·rw[Aj AA,Ah AA,q _ AA,H]
    ·rw[Aj AA,Ah AA,q _ AA,C]
    exact ((J.trans f).new _).put AA _
   refine Am ?_;intro yb ya;refine Z3 ?_;refine ya.o _ _ ⟨Al (f.new _),?_⟩;clear ya yb;refine Ai (i:=6) AH ?_;refine Am ?_;intro yb ya;refine Z3 ?_;refine ya.o _ _ ⟨Al (f.new _),?_⟩;clear ya yb;refine Ai (i:=8) AH ?_;refine Am ?_;intro yb ya;refine Z3 ?_;refine ya.o _ _ ⟨A3 rfl,?_⟩;clear ya yb;refine Aw AH ⟨rfl,F.B,l,AG,AG,AG,AG,AA,BJ,?_,?_,Ak,?_⟩
   ·rw[Aj AA,Ah AA,q _ AA,H]
   ·rw[Aj AA,Ah AA,q _ AA,C]
   exact ((J.trans f).new _).put AA _
  refine Am ?_;intro yb ya;refine Z3 ?_;refine ya.o _ _ ⟨Al ((AD.refl _).new _),?_⟩;clear ya yb;refine Ai (i:=5) AH ?_;refine Am ?_;intro yb ya;refine Z3 ?_;refine AF.mono (u _) ?_;rintro _ F ⟨⟨l,rfl⟩,f⟩;have q:=f.C;have an:=f.B;simp only[Aa]at an;refine Z3 ?_;refine ya.o _ _ ⟨Al (((AD.refl _).new _).trans f),?_⟩;clear ya yb;refine Ai (i:=6) AH ?_;refine Am ?_;intro yb ya;refine Z3 ?_;refine ya.o _ _ ⟨Al (((AD.refl _).new _).trans f),?_⟩;clear ya yb;refine Ai (i:=8) AH ?_;refine Am ?_;intro yb ya;refine Z3 ?_;refine ya.o _ _ ⟨A3 rfl,?_⟩;clear ya yb;refine Aw AH ⟨rfl,B.B,l,AG,AG,AG,AG,AA,BJ,?_,?_,Ak,?_⟩
  ·rw[Aj AA,q _ (by rw[Aa];omega),Ah AA,H]
  ·rw[Aj AA,q _ (by rw[Aa];omega),Ah AA,C]
  exact ((J.new _).trans f).put AA _
 rintro e s F ⟨rfl,o,l,h1,N,O,R,bf,M,a8,T,S,n⟩;have Y:=n.B;clear J H C ao a6;refine mr ?_
 refine Ae (λm s g=>∃(k D:Nat) (p:oh),m=Z r.A-k/\k<=Z r.A/\s 2=ptr (z.B+1) 0/\s 3=sl d (Z j) (As j)/\s 4=ptr o 0/\s 18=sl id (Z r.A) b/\s 19=ic (Z r.A)/\s 20=ic k/\AD z g/\o<g.B/\g.C (z.B+1)=[my false,ic 0,nilS,nilS]/\g.C o=[my false,ic r.h.p,sl l (Z r.h.ts) (Ad (r.h.ts.map (G8 j))),sl D k p]/\Own z g D k/\Z p=k*3/\AC (EL Sq ((r.A.take k).map (JS j)) p)) (Z r.A)
  ⟨0,1,[],AA,AA,by simp[upd,N],by simp[upd,O],by simp[upd,R],AG,AG,rfl,n,M,T,S,Own.nil _ _,nk,rfl⟩ ?_
 clear h1 N O R a8 T S n M Y;rintro m s g ⟨k,D,p,rfl,hk,N,O,R,bn,bm,bi,n,M,T,S,hO,ba,A⟩;have Y:=n.B;by_cases W:k<Z r.A
 ·have E:=AK W;obtain⟨G,rr,hd⟩:=H8 hb E;have X:=λz=>a7 d r.A[k] G (AR W) z;generalize r.A[k]=a at hd E X;have HX:AC (∀t,EL Sq ((r.A.take (k+1)).map (JS j)) (p++[my a.neg,ic a.a.p,sl t (Z a.a.ts) (Ad (a.a.ts.map (G8 j)))])):=λt=>by
   rw[AT,E,BN,EU];exact EL.append A.o (EL.single ⟨t,by simp[JS,lN]⟩)
  clear E A a7;refine m0 ?_;intro yb ya;refine Xi (X _) ?_;rintro _ _ ⟨⟨t,rfl⟩,I⟩;(have a9:=I.C;have ay:=I.B;simp only[Aa,Ac]at ay);refine nh ?_;intro yb ya;rename_i z4;have be:=((n.new [my false,ic 0,nilS]).put n.B _).trans I;have bd:=Own.keep (Own.put (Own.new hO [my false,ic 0,nilS]) g.B [my a.neg,ic a.a.p,sl G (Z a.a.ts) (Ad a.a.ts)]) I;refine Bo (by first|exact G5) ((be.new _).put AA _) (Own.put (Own.new bd _) _ _) nr (by rfl) ba (by rfl) (by rfl) nr AA AA ?_;intro U zn ak am af aa ae ab;simp only[Ac,Aa]at aa;refine Z3 ?_;refine mr ?_;refine⟨Z r.A-(k+1),AA,k+1,U,p++[my a.neg,ic a.a.p,sl t (Z a.a.ts) (Ad (a.a.ts.map (G8 j)))],?_⟩
  ((repeat' refine Zi ?_ ?_)<;>first|exact Xq|exact (am.put AA _)|exact (Own.put ak _ _)|exact (HX.o t)|exact Xs)
 have bc:k=Z r.A:=AA;subst bc;rw[AS]at A;refine mr ?_;exact⟨_,rfl,⟨_,rfl,l,D,p,by simp[lN],A.o⟩,n.put AA _⟩
def rS (r o c)(n:Nat)(L i2 b2)(N:T1 o r c)(bi:Z r.A<=100)(hL:EL Sq L b2)(hl:Z L<=100)(z):
  ni 211 [ag c,ic n,sl i2 (Z L) b2] z λx l=>(∃c',x=ag c'/\T1 false ⟨r.h,rpl n L r.A⟩ c')/\AD z l:=by
 obtain⟨C,id,b,rfl,hb⟩:=N;have bg:=EL.length Hk hb;have bh:=EL.length Hk hL;refine Z9 47 [.cell 6 125] Tryz.func211 ?_;refine mr ?_
 refine Ae (λm s l=>∃(k d:Nat) (R:List Lit) (e:oh),m=Z r.A-k/\k<=Z r.A/\s 1=ic n/\s 2=sl i2 (Z L) b2/\s 6=ptr (z.B+1) 0/\s 7=ptr (z.B+2) 0/\s 16=sl id (Z r.A) b/\s 17=ic (Z r.A)/\s 18=ic k/\AD z l/\z.B+2<l.B/\l.C (z.B+1)=[my false,ic 0,nilS,nilS]/\l.C (z.B+2)=[my false,ic r.h.p,sl C (Z r.h.ts) (Ad r.h.ts),sl d (Z R) e]/\Own z l d (Z R)/\Z e=Z R*3/\Z R<=k*(Z L+1)/\AC (R=rpl n L (r.A.take k)/\EL Sq R e)) (Z r.A)
  ⟨0,1,[],[],AA,AA,by simp[upd,AL],by simp[upd,AL],AG,AG,AG,AG,rfl,?_,?_,?_,?_,Own.nil _ _,nk,nk,⟨by simp[rpl],rfl⟩⟩ ?_
 ·exact ((((AD.refl z).new _).new _).new _).put AA _
 ·simp only[Ac,Aa];omega
 ·rw[Aj AA,Ah AM,Be (by rw[Aa];omega) (by rw[Aa];omega)]
 ·rw[show z.B+2=z.B+1+1 by omega,Ak];rfl
 rintro m s l ⟨k,d,R,e,rfl,hk,h1,W,h6,h7,U,Y,a0,g,V,J,D,u,E,be,p⟩;have X:=g.B;by_cases ba:k<Z r.A
 ·have A:=AK ba;obtain⟨P,rr,hd⟩:=H8 hb A;generalize r.A[k]=a at hd A;have bm:Z R<=10100:=BI be (BI (Nat.mul_le_mul (by omega:k<=100) (by omega:Z L+1<=101)) nr);have H:=Rj (n:=n) (o:=L) r.A (k+1);have f:=W5 (n:=n) (o:=L) A;rw[<-p.o.1]at f;by_cases v:k=n
  ·rw[if_pos v]at f;have a9:((k:Int) !=(n:Int))=false:=by simp[v]
   have T:AC _:=f;have a6:AC (EL Sq R e):=p.o.2;rw[f,AX]at H;clear f A p v;refine mr ?_
   refine Ae (λm s q=>∃(j d:Nat) (i:oh),m=Z L-j/\j<=Z L/\s 1=ic n/\s 2=sl i2 (Z L) b2/\s 6=ptr (z.B+1) 0/\s 7=ptr (z.B+2) 0/\s 16=sl id (Z r.A) b/\s 17=ic (Z r.A)/\s 18=ic k/\s 32=sl i2 (Z L) b2/\s 33=ic (Z L)/\s 34=ic j/\AD z q/\z.B+2<q.B/\q.C (z.B+1)=[my false,ic 0,nilS,nilS]/\q.C (z.B+2)=[my false,ic r.h.p,sl C (Z r.h.ts) (Ad r.h.ts),sl d (Z R+j) i]/\Own z q d (Z R+j)/\Z i=(Z R+j)*3/\AC (EL Sq (R++L.take j) i)) (Z L)
    ⟨0,d,e,AA,AA,AI,AI,AI,AI,AI,AI,AI,AI,AI,AG,Xs,BJ,by rw[Aj AA,Ah AA,J],by rw[Aj AA,Ah AA,D];rfl,(nn (Own.put (Own.new u _) _ _)),nn E,nn a6⟩ ?_
   clear h1 W h6 h7 U Y a0 g u X E a6 J D V;rintro m s q ⟨j,d,i,rfl,hj,h1,W,h6,h7,U,Y,a0,bq,bp,bo,g,V,J,D,u,S,B⟩;have X:=g.B;by_cases ax:j<Z L
   ·have F:=AK ax;obtain⟨Q,rj,bd⟩:=H8 hL F;generalize L[j]=y at bd F;have bf:AC (EL Sq (R++L.take (j+1)) (i++[my y.neg,ic y.a.p,sl Q (Z y.a.ts) (Ad y.a.ts)])):=by
     rw[AC,AT,F,BN,<-CR];exact EL.append B.o (EL.single ⟨Q,rfl⟩)
    clear F B;refine nh ?_;intro yb ya;refine Bo (by first|exact G5) ((g.new _).put g.B _) (Own.put (Own.new u _) _ _) nr (by rfl) (S) (by rfl) (by rfl) nr AA AA ?_;intro t zn M K ad I ac ab;simp only[Ac,Aa]at I;refine Z3 ?_;refine mr ?_;refine⟨Z L-(j+1),AA,j+1,t,i++[my y.neg,ic y.a.p,sl Q (Z y.a.ts) (Ad y.a.ts)],?_⟩
    ((repeat' refine Zi ?_ ?_)<;>first|exact Xq|exact bf|exact (K.put AA _)|exact (Own.put M _ _)|exact ((by simp[S];omega))|exact Xs)
   have bc:j=Z L:=AA;subst bc;rw[AS]at B;have O:AC (R++L=rpl n L (r.A.take (k+1))/\EL Sq (R++L) i):=⟨T.o.symm,B.o⟩;clear B T;have a7:Z i=Z (R++L)*3:=by rw[S,AX]
   have bn:Own z q d (Z (R++L)):=by rw[AX];exact u
   rw[<-AX]at D;have a8:Z (R++L)<=(k+1)*(Z L+1):=by rw[AX];exact H
   refine mr ?_;refine⟨Z r.A-(k+1),AA,k+1,d,R++L,i,?_⟩;exact m9 O
  rw[if_neg v]at f;have a9:((k:Int) !=(n:Int))=true:=nn (by omega:¬(k:Int)=n);have O:AC (R++[a]=rpl n L (r.A.take (k+1))/\EL Sq (R++[a]) (e++[my a.neg,ic a.a.p,sl P (Z a.a.ts) (Ad a.a.ts)])):=⟨f.symm,EL.append p.o.2 (EL.single ⟨P,rfl⟩)⟩;rw[f]at H;clear f A p v;refine nh ?_;intro yb ya;refine Bo (by first|exact G5) ((g.new _).put g.B _) (Own.put (Own.new u _) _ _) nr (by rfl) (E) (by rfl) (by rfl) nr AA AA ?_;intro t zn M K ad I ac ab;simp only[Ac,Aa]at I;refine Z3 ?_;refine mr ?_;refine⟨Z r.A-(k+1),AA,k+1,t,R++[a],e++[my a.neg,ic a.a.p,sl P (Z a.a.ts) (Ad a.a.ts)],?_⟩
  ((repeat' refine Zi ?_ ?_)<;>first|exact Xq|exact O|exact (K.put AA _)|exact ((nn (Own.put M _ _)))|exact ((by simp[E];omega))|exact ((nn Ak))|exact Xs)
 have bb:k=Z r.A:=AA;subst bb;obtain⟨G,e2⟩:=p.o;rw[AS]at G;have HE:AC (∀c,c=[my false,ic r.h.p,sl C (Z r.h.ts) (Ad r.h.ts),sl d (Z R) e]->T1 false ⟨r.h,rpl n L r.A⟩ c):=λc N=>by
  rw[<-G];exact⟨C,d,e,N,e2⟩
 clear p G e2;refine mr ?_;exact⟨_,rfl,⟨_,rfl,HE.o _ rfl⟩,g.put AA _⟩
def OT (t:Tm):Prop:=∃w,UT w/\Aq w=t
def OT.dec {t}(h:OT t):UT (Km t)/\Aq (Km t)=t:=by
 obtain⟨w,a,rfl⟩:=h;rw[a.dec.1];exact⟨a,rfl⟩
def pS {k:Nat}(e:k<26):UT [Im k]/\Aq [Im k]=(true,(k:Int)):=by
 have a:=E4 (k:=(k:Int)) AA AA;have d:Ab [Im k]=true:=a;refine⟨⟨.inl d,⟨nk,λb c=>?_⟩,nk,λ_=>⟨k,e,rfl⟩⟩,?_⟩;simp at c;subst c;exact .inl a;rw[Et a,Fv AA AA];congr 1;omega
def iq {k:Nat}(a:k<26):OT (true,(k:Int)):=⟨_,(pS a).1,(pS a).2⟩
def KV (t:Tm):Prop:=zU t/\(t.1=false->OT t)
def OT.w {t}(h:OT t):KV t:=by
 refine⟨λa=>?_,λ_=>h⟩;obtain⟨w,b,rfl⟩:=h;rw[Cb]at a;obtain⟨k,c,-,e⟩:=b.enc a;exact⟨k,AA,by rw[e]⟩
structure II (P:List Tm):Prop where
 len:Z P=52
 w:∀t∈P,KV t
def II.of {P}(h:II P){t}(a:KV t):KV (Hl P t):=by
 unfold Hl;split;rename_i b;cases e:P[t.2.toNat]? with
 |none=>exact a
 |some u=>exact h.w u (AY e)
 exact a
def II.wi {P}(h:II P){v t}(c:KV t):II (Us P v t):=
 ⟨by rw[Of];exact h.len,λu b=>by
  obtain⟨x,a,rfl⟩:=AN.1 b;split;exact c
  exact h.w x a⟩
def JP:OT (false,0):=⟨[48],⟨.inr ⟨rfl,(by show Lib.itoa 0=[48];simp[Lib.itoa,Lib.decDigits]),nr,nr⟩,⟨nk,nr⟩,nk,λh=>by cases h⟩,rfl⟩
def SD:II BU:=⟨oV,λt a=>by
 obtain⟨i,b,rfl⟩:=AN.1 a;split;exact⟨λ_=>⟨26+i,AA,nk⟩,λh=>by cases h⟩
 exact JP.w⟩
def QZ:II BY:=⟨Ni,λt a=>by
 obtain⟨i,b,rfl⟩:=AN.1 a
 exact⟨λ_=>⟨i,nn b,rfl⟩,λh=>by cases h⟩⟩
def rK:∀{d f P b:List Tm},II P->(∀t∈d,KV t)->(∀t∈f,KV t)->Dy P d f=some b->II b
 |[],_,P,b,h,_,_,e=>by cases e;exact h
 |_::_,[],_,_,_,_,_,e=>by cases e
 |t::d,u::f,P,b,h,i,g,e=>by
  unfold Dy at e;obtain⟨Q,a,e⟩:=Option.bind_eq_some_iff.1 e;refine rK ?_ (λx c=>i x (by simp[c])) (λx c=>g x (by simp[c])) e;unfold Np at a;have k:=h.of (i t nk);have j:=h.of (g u nk);split at a;cases a;exact h;split at a;cases a;exact h.wi k;split at a;cases a;exact h.wi j;cases a
def KO (q:Tx):Prop:=Jy q/\Z q<=1000
structure JK (N:ol)(ar:Tx->Nat)(a:Dx):Prop where
 nm:∃q∈N,a.p=(N.idxOf q:Nat)/\KO q/\Z a.ts=ar q
 pos:0<Z a.ts
 le3:Z a.ts<=3
 w:∀t∈a.ts,KV t
structure GQ (N:ol)(ar:Tx->Nat)(r:E3):Prop where
 hd:JK N ar r.h
 bd:∀l∈r.A,JK N ar l.a
 bl:Z r.A<=100
def GQ.r52 {N ar r}(h:GQ N ar r):LP r:=⟨h.hd.le3,λl a=>(h.bd l a).le3,h.bl,λt b=>(h.hd.w t b).1,λl a t b=>((h.bd l a).w t b).1⟩
def JK.pin {N ar a}(h:JK N ar a){P}(b:II P):JK N ar (P9 P a):=by
 obtain⟨q,f,d,e,g⟩:=h.nm
 exact⟨⟨q,f,d,e,by simp[P9,g]⟩,by simpa[P9]using h.pos,by simpa[P9]using h.le3,λt i=>by
  obtain⟨u,c,rfl⟩:=AN.1 i
  exact b.of (h.w u c)⟩
def GQ.pin {N ar r}(h:GQ N ar r){P}(a:II P):GQ N ar (Fj P r):=
 ⟨h.hd.pin a,λl b=>by
  obtain⟨k,c,rfl⟩:=AN.1 b
  exact (h.bd k c).pin a,by simpa[Fj]using h.bl⟩
def GQ.join {N ar r s}(h:GQ N ar r)(g:GQ N ar s)(n)(c:Z r.A<=5)(e:Z s.A<=5):GQ N ar ⟨r.h,rpl n s.A r.A⟩:=
 ⟨h.hd,λl a=>by
  rcases Cy a with a|a;exact h.bd l a;exact g.bd l a,by
  have b:=Rj (n:=n) (o:=s.A) r.A (Z r.A);rw[AS]at b;have d:Z r.A*(Z s.A+1)<=5*6:=Nat.mul_le_mul c AA;show Z (rpl n s.A r.A)<=100
  omega⟩
def sV {N ar x}(g:KP N ar x)(j:KL N x)(f:x.o=false)(d:Dc x):GQ N ar (Ce N x):=by
 obtain⟨o,p,q,n⟩:=d.2.2 f;have c:∀a∈Af x,ML N ar a->En a->JK N ar (Eg N a):=λa b e i=>
  ⟨⟨a.B,e.mem,rfl,⟨i.1,(j.at_ a b).2.1⟩,by simp[Eg,e.len]⟩,by simpa[Eg,List.length_pos_iff]using i.2.1,by simpa[Eg]using e.le3,λt m=>by
   obtain⟨w,d,rfl⟩:=AN.1 m
   exact OT.w ⟨w,(j.at_ a b).2.2 w d,rfl⟩⟩
 refine⟨c _ (Ap (.inl ⟨f,rfl⟩)) g.h o,λl k=>?_,by simp[Ce];omega⟩;obtain⟨a,b,rfl⟩:=AN.1 k;exact c a (Ap (.inr b)) (g.A a b) (n a b)
def Kt (N:ol)(x:AB)(k:Nat)(y:AB):Option E3:=
 (x.A[k]?).bind λa=>(Dy BY (a.A.map Aq) (Fj BU (Ce N y)).h.ts).map λP=>Fa (Fj P ⟨(Ce N x).h,rpl k (Fj BU (Ce N y)).A (Ce N x).A⟩)
def Fw (q:Tx)(y:AB):Bool:=!y.o&&decide (y.h.B=q)
def Lo (N:ol)(l:n0)(x:AB)(k:Nat)(q:Tx):List E3:=(l.filter (Fw q)).filterMap (Kt N x k)
structure IF (N:ol)(ar:Tx->Nat)(a:Dx):Prop where
 nm:∃q∈N,a.p=(N.idxOf q:Nat)/\KO q/\Z a.ts=ar q
 pos:0<Z a.ts
 le3:Z a.ts<=3
 ot:∀t∈a.ts,OT t
structure FB (N:ol)(ar:Tx->Nat)(r:E3):Prop where
 hd:IF N ar r.h
 bd:∀l∈r.A,IF N ar l.a
def N7 (N:ol)(b:Bool)(a:Dx):AE:=⟨b,(N[a.p.toNat]?).getD [],a.ts.map Km⟩
def Cz (N:ol)(r:E3):AB:=⟨false,N7 N false r.h,r.A.map λl=>N7 N l.neg l.a⟩
def IF.at {N ar a}(h:IF N ar a)(b):(N7 N b a).B∈N/\KO (N7 N b a).B/\Z (N7 N b a).A=ar (N7 N b a).B/\Eg N (N7 N b a)=a/\∀t∈(N7 N b a).A,UT t:=by
 obtain⟨q,f,d,i,j⟩:=h.nm;have e:(N7 N b a).B=q:=by
  show (N[a.p.toNat]?).getD []=q;rw[d,DK,AK (CS f),FN];rfl
 rw[e];refine⟨f,i,by simp[N7,j],?_,λt c=>?_⟩;unfold Eg;rw[e,<-d];show (⟨a.p,(a.ts.map Km).map Aq⟩:Dx)=a;have:(a.ts.map Km).map Aq=a.ts:=by
  rw[BH]
  conv=>rhs;rw[<-IE a.ts]
  exact CG λt c=>(h.ot t c).dec.2
 rw[this];obtain⟨u,g,rfl⟩:=AN.1 c;exact (h.ot u g).dec.1
def FB.rul {N ar r}(h:FB N ar r):Ce N (Cz N r)=r:=by
 obtain⟨c,b⟩:=r;unfold Ce Cz;simp only[(h.hd.at false).2.2.2.1,BH];congr 1
 conv=>rhs;rw[<-IE b]
 refine CG λl a=>?_;show (⟨(N7 N l.neg l.a).nt,Eg N (N7 N l.neg l.a)⟩:Lit)=l;rw[((h.bd l a).at l.neg).2.2.2.1];rfl
def pG {N}:∀{l:oq} {b:oh},(∀a∈l,a.B∈N)->EL Sq (l.map (E6 N)) b->EL (PL N) l b
 |[],_,_,h=>h
 |a::l,_,g,⟨c,d,⟨id,e⟩,i,e2⟩=>⟨c,d,⟨g a nk,id,by rw[e];simp[E6,Eg,Jr]⟩,pG (λb f=>g b (by simp[f])) i,e2⟩
def OV {N x c}(h:PI N x c):T1 x.o (Ce N x) c:=by
 obtain⟨e,d,id,b,a,rfl⟩:=h;exact⟨d,id,b,by simp[Ce,Eg,Jr],tF a⟩
def pE {N x c}(f:x.h.B∈N)(h2:∀a∈x.A,a.B∈N)(h:T1 x.o (Ce N x) c):PI N x c:=by
 obtain⟨e,id,b,rfl,d⟩:=h;exact⟨f,e,id,b,pG h2 d,by simp[Ce,Eg,Jr]⟩
def FB.pi {N ar r}(h:FB N ar r){c}(b:T1 false r c):PI N (Cz N r) c:=by
 refine pE (h.hd.at false).1 (λa d=>?_) (by rw[h.rul];exact b);obtain⟨l,e,rfl⟩:=AN.1 d;exact ((h.bd l e).at l.neg).1
def FB.atoms {N ar r}(h:FB N ar r){a}(d:a∈Af (Cz N r)):∃m b,a=N7 N b m/\IF N ar m:=by
 have c:a=N7 N false r.h\/a∈r.A.map λl=>N7 N l.neg l.a:=by simpa[Af,Cz]using d
 rcases c with rfl|c;exact⟨_,_,rfl,h.hd⟩;obtain⟨l,e,rfl⟩:=AN.1 c;exact⟨_,_,rfl,h.bd l e⟩
def FB.msr {N ar r}(h:FB N ar r)(d:Z r.A<=1000):KL N (Cz N r):=
 ⟨(λe=>by cases e),by simpa[Cz]using d,(h.hd.at false).1,(h.hd.at false).2.1.2,λa f=>by
  obtain⟨m,b,rfl,c⟩:=h.atoms f
  exact⟨by simpa[N7]using c.le3,(c.at b).2.1.2,(c.at b).2.2.2.2⟩⟩
def JK.ren {N ar a}(h:JK N ar a){vs}(g:∀v,(true,v)∈a.ts->v∈vs)(m:Z vs<=26):IF N ar (lN vs a):=by
 obtain⟨q,k,i,j,l⟩:=h.nm;refine⟨⟨q,k,i,j,by simp[lN,l]⟩,by simpa[lN]using h.pos,by simpa[lN]using h.le3,λt f=>?_⟩;obtain⟨⟨b,v⟩,d,rfl⟩:=AN.1 f;cases b with
 |true=>
  have c:=g v d;have n:=CS c;have e:G8 vs (true,v)=(true,((vs.idxOf v:Nat):Int)):=by simp[G8,lZ,c]
  rw[e];exact iq AA
 |false=>exact (h.w _ d).2 rfl
def GQ.ord {N ar r}(h:GQ N ar r)(g:Z r.A<=5):FB N ar (Fa r):=by
 have b:Z (Fc r)<=26:=by
  have j:=Fs (l:=Hs r) λa c=>by
   rcases BD.1 c with rfl|c;exact h.hd.le3;obtain⟨l,b,rfl⟩:=AN.1 c;exact (h.bd l b).le3
  have i:Z (Hs r)=Z r.A+1:=by simp[Hs]
  unfold Fc;omega
 refine⟨h.hd.ren (λv d=>(Dn _ _).2 ⟨r.h,by simp[Hs],d⟩) b,λl f=>?_⟩;obtain⟨k,e,rfl⟩:=AN.1 f;exact (h.bd k e).ren (λv d=>(Dn _ _).2 ⟨k.a,by simp only[Hs,BD,AN];exact .inr ⟨k,e,rfl⟩,d⟩) b
def vP {N:ol}{p q}(b:p∈N)(a:q∈N):(((N.idxOf p:Nat):Int) !=((N.idxOf q:Nat):Int))=!decide (p=q):=by
 by_cases h:p=q;subst h;simp
 have:N.idxOf p≠N.idxOf q:=λe=>h (by
  have d:=FN (CS b);have c:=FN (CS a)
  rw[<-d,<-c];congr 1)
 simp[h];omega
def wS {N}{l:n0}{x k q i y}(h:l[i]?=some y):Lo N (l.take (i+1)) x k q=Lo N (l.take i) x k q++(if Fw q y=true then (Kt N x k y).toList else []):=by
 unfold Lo;rw[AT,h,BN,IR,List.filterMap_append];congr 1;by_cases a:Fw q y=true;rw[if_pos a,List.filter_cons,if_pos a];cases e:Kt N x k y<;>simp[e];rw[if_neg a,List.filter_cons,if_neg a];rfl
def Uo (N ar l cs idn idi)(o:BB N ar l)(hE:EL (PI N) l cs)(x c)(k:Nat)(a)(hx:x∈l)(p:x.o=false)(hc:PI N x c)(ha:x.A[k]?=some a)(z):
  ni 179 [Cq N idn l idi cs,ag c,ic k] z λr B=>(∃id c',r=sl id (Z (Lo N l x k a.B)) c'/\EL (T1 false) (Lo N l x k a.B) c')/\AD z B:=by
 have cw:=o.gl.len;have dz:=EL.length Ew hE;have b6:=AY ha;have hW:=λy hy M=>sV (o.ru y hy M) (o.gl.msr y hy) M (o.wit y hy);have bq:=hW x hx p;have ds:=o.b5 x hx;have c8:=((o.ru x hx p).A a b6).mem;have be:=((o.ru x hx p).A a b6).len;have b4:=OV hc;rw[p]at b4;have b0:(Ce N x).A[k]?=some (E6 N a):=by simp[Ce,ha]
 have cf:=bq.bd _ (AY b0);have b9:=b4;obtain⟨ih,ib,bc,rfl,hb⟩:=b4;obtain⟨ia,ra,c5⟩:=H8 hb b0;have c7:=EL.length Hk hb;have ck:Z (Ce N x).A=Z x.A:=by simp[Ce]
 have dw:k<Z x.A:=(BA.1 ha).1;have HU:AC (∀y,Kt N x k y=(Dy BY (E6 N a).a.ts (Fj BU (Ce N y)).h.ts).map λP=>Fa (Fj P ⟨(Ce N x).h,rpl k (Fj BU (Ce N y)).A (Ce N x).A⟩)):=λy=>by
  unfold Kt;rw[ha];rfl
 have C:(E6 N a).a.p=((N.idxOf a.B:Nat):Int):=rfl;have ce:Z (E6 N a).a.ts=ar a.B:=by simp[E6,Eg,be]
 generalize Ce N x=X at bq b9 b0 hb c7 ck HU;generalize (E6 N a).a=A at c5 cf HU C ce;have da:Z X.A<=5:=AA;have dx:k<Z X.A:=AA;have dm:AC _:=C;have dn:AC _:=ce;have dh:AC (T1 false X [my false,ic X.h.p,sl ih (Z X.h.ts) (Ad X.h.ts),sl ib (Z X.A) bc]):=b9;have HR:AC (BB N ar l):=o;have HW:AC (∀y∈l,y.o=false->GQ N ar (Ce N y)):=hW;have df:AC (GQ N ar X):=bq;have cg:AC (JK N ar A):=cf;clear b9 o hW bq cf ha b6 b0 hc ck C ce be;refine Z9 65 [.tmp 6] Tryz.func179 ?_;refine mr ?_
 refine Ae (λm s B=>∃(i id:Nat) (R:List E3) (c:oh),m=Z l-i/\i<=Z l/\s 2=ic k/\s 4=ptr (z.B+1) 0/\s 7=sl id (Z R) c/\s 8=ptr (z.B+2) 0/\s 24=sl idi (Z l) cs/\s 25=ic (Z l)/\s 26=ic i/\AD z B/\z.B+2<B.B/\B.C (z.B+1)=[my false,ic X.h.p,sl ih (Z X.h.ts) (Ad X.h.ts),sl ib (Z X.A) bc]/\B.C (z.B+2)=[ic A.p,sl ia (Z A.ts) (Ad A.ts)]/\Own z B id (Z R)/\Z c=Z R*4/\Z R<=i/\AC (R=Lo N (l.take i) x k a.B/\EL (T1 false) R c)) (Z l)
  ⟨0,1,[],[],AA,AA,by simp[upd,AL],AG,AG,AG,AG,AG,rfl,?_,?_,?_,?_,Own.nil _ _,nk,nk,⟨by simp[Lo],rfl⟩⟩ ?_
 ·exact ((((AD.refl z).new _).new _).new _).put AA _
 ·simp only[Ac,Aa];omega
 ·rw[Aj AA,Ah AM,Be (by rw[Aa];omega) (by rw[Aa];omega)]
 ·rw[show z.B+2=z.B+1+1 by omega,Ak]
 rintro m s B ⟨i,id,R,c,rfl,hi,h2,h4,h7,h8,d4,d3,d2,L,dt,dq,dp,hO,c6,d0,b⟩;have dr:=L.B;by_cases ci:i<Z l
 ·have D:=AK ci;have ba:=AR ci;have ch:=((HR.o).gl.msr l[i] ba).mem;have H:=λ(M:l[i].o=false)=>HW.o l[i] ba M;have cr:=HR.o.b5 l[i] ba;have W:=λ(M:l[i].o=false)=>(HR.o.ru l[i] ba M).h.len;obtain⟨cy,ry,T,V⟩:=EL.get Ew hE D;have T:=OV T;have n:=wS (N:=N) (x:=x) (k:=k) (q:=a.B) D;have E:=vP ch c8;have bo:(Ce N l[i]).h.p=((N.idxOf l[i].h.B:Nat):Int):=rfl;have b7:Z (Ce N l[i]).A=Z l[i].A:=by simp[Ce]
  have bp:Z (Ce N l[i]).h.ts=Z l[i].h.A:=by simp[Ce,Eg]
  have f:=HU.o l[i];generalize l[i]=y at D ba ch H cr W T V n E bo b7 bp f;generalize Ce N y=Y at H T bo b7 bp f;have c9:Z Y.A<=5:=AA;have de:AC _:=bp;clear b7 bp;have bf:=T;obtain⟨jh,jb,jc,rfl,cx⟩:=T;simp only[EW,FE]at V;rw[<-bo,<-dm.o]at E;clear bo;cases U:y.o with
  |true=>
   have g:AC (R=Lo N (l.take (i+1)) x k a.B/\EL (T1 false) R c):=by
    rw[n];simp[Fw,U];exact b.o
   rw[U]at V;clear n b D bf H W E f;refine mr ?_;refine⟨Z l-(i+1),AA,i+1,id,R,c,?_⟩;exact m9 g
  |false=>
   rw[U]at V bf;by_cases bb:y.h.B=a.B
   ·have cv:(Y.h.p !=A.p)=false:=by rw[E];simp[bb]
    have b8:=H U;have I:=b8.pin SD;have C:=λz=>apart_spec Y b8.r52 false _ bf z;have bn:Z A.ts=Z (Fj BU Y).h.ts:=by
     rw[dn.o,<-bb,<-W U,<-de.o];simp[Fj,P9]
    have F:=λjh z=>yA A (Fj BU Y).h ia jh bn (by have:=cg.o.le3;omega) (λt ht=>(cg.o.w t ht).1) (λt ht=>(I.hd.w t ht).1) z;have cj:Z (Fj BU Y).A<=5:=by simp[Fj];omega
    have br:∀P,Dy BY A.ts (Fj BU Y).h.ts=some P->II P:=λP e=>rK QZ cg.o.w I.hd.w e;have bm:=df.o.join I k da cj;generalize Fj BU Y=v at I C bn F cj br bm f;have cc:=λjb jc (h:EL Sq v.A jc) z=>rS X false _ k v.A jb jc dh.o AA h AA z;have dy:=Gx;have hz:=Oj;have dv:=U9;have d5:AC _:=bn;clear bf H W E b8 bn cx;cases hm:Dy BY A.ts v.h.ts with
    |none=>
     rw[hm]at f F;have g:AC (R=Lo N (l.take (i+1)) x k a.B/\EL (T1 false) R c):=by
      rw[n,f];simp;exact b.o
     have ct:=H5 (P:=CY) (by simp[CY]);have cu:=P7 (P:=CY) (Q:=CY) (by simp[CY]) (by simp[CY]);unfold PF at F;clear n f b D hm br cc bm I
     (repeat (refine m0 ?_;intro yb ya;(first|(refine Xi (C _) ?_;rintro _ _ ⟨⟨_,rfl,G⟩,u⟩;(have ai:=((L.new _).put L.B _).trans u;have cb:=Own.keep (Own.put (Own.new hO _) _ _) u;have av:=u.B;have an:=u.C;(try simp only[Aa,Ac]at av an);obtain⟨zh,zb,zc,rfl,G⟩:=G;clear G))|(refine Xi (F _ _) ?_;rintro _ _ ⟨rfl,j⟩;(have ah:=((ai.new _).put ai.B _).trans j;have ca:=Own.keep (Own.put (Own.new cb _) _ _) j;have au:=j.B;have am:=j.C;(try simp only[Aa,Ac]at au am))))));refine mr ?_
     refine⟨Z l-(i+1),AA,i+1,id,R,c,?_⟩
     ((repeat' refine Zi ?_ ?_)<;>first|exact Xq|exact g|exact (Own.put (Own.new ca _) _ _)|exact ((ah.new _).put ah.B _)|exact Xs)
    |some P=>
     rw[hm]at f F;have S:=br P hm;have cm:=bm.pin S;have cd:=λc (h:T1 false ⟨X.h,rpl k v.A X.A⟩ c) z=>dT P S.len _ bm.r52 false c h z;have bu:=λc (h:T1 false (Fj P ⟨X.h,rpl k v.A X.A⟩) c) z=>xQ _ c h cm.r52 z;have g:AC (∀d,T1 false (Fa (Fj P ⟨X.h,rpl k v.A X.A⟩)) d->R++[Fa (Fj P ⟨X.h,rpl k v.A X.A⟩)]=Lo N (l.take (i+1)) x k a.B/\EL (T1 false) (R++[Fa (Fj P ⟨X.h,rpl k v.A X.A⟩)]) (c++d)):=λd V=>by
      refine⟨?_,EL.append b.o.2 (EL.single V)⟩;rw[n,f];simp[Fw,U,bb];exact b.o.1
     have ct:=H5 S.len;have cu:=P7 (P:=CY) (by simp[CY]) S.len;have du:=G9 S.len;unfold PF at F;clear n f b D hm br cm bm I S;generalize (⟨X.h,rpl k v.A X.A⟩:E3)=J at cc cd bu g;generalize Fj P J=K at cd bu g;generalize Fa K=O at bu g
     repeat' first|refine Z1 ?_|refine Z8 λyb ya=>?_|refine Z4 ?_;clear ya yb|refine Z2 ?_ ?_<;>intro h af<;>try exact Xp|refine Z6 ?_;intro idn zn a6 bg ae ac aj ab|(refine Z5 ?_;first|(refine Xi (C _) ?_;rintro _ _ ⟨⟨_,rfl,G⟩,u⟩;(have ai:=((L.new _).put L.B _).trans u;have cb:=Own.keep (Own.put (Own.new hO _) _ _) u;have av:=u.B;have an:=u.C;(try simp only[Aa,Ac]at av an);obtain⟨zh,zb,zc,rfl,G⟩:=G))|(refine Xi (F _ _) ?_;rintro _ _ ⟨rfl,j⟩;(have ah:=((ai.new _).put ai.B _).trans j;have ca:=Own.keep (Own.put (Own.new cb _) _ _) j;have au:=j.B;have am:=j.C;(try simp only[Aa,Ac]at au am)))|(refine Xi (cc _ _ G _) ?_;rintro _ _ ⟨⟨_,rfl,cq⟩,bz⟩;(have bi:=((ah.new _).put ah.B _).trans bz;have dc:=Own.keep (Own.put (Own.new ca _) _ _) bz;have b3:=bz.B;have a9:=bz.C;(try simp only[Aa,Ac]at b3 a9);have dl:AC _:=cq;obtain⟨jh3,jb3,jc3,rfl,-⟩:=cq))|(refine Xi (cd _ dl.o _) ?_;rintro _ _ ⟨⟨_,rfl,cp⟩,bw⟩;(have bh:=((bi.new _).put bi.B _).trans bw;have db:=Own.keep (Own.put (Own.new dc _) _ _) bw;have b2:=bw.B;have a8:=bw.C;(try simp only[Aa,Ac]at b2 a8);have dk:AC _:=cp;obtain⟨jh4,jb4,jc4,rfl,-⟩:=cp))|(refine Xi (bu _ dk.o _) ?_;rintro _ _ ⟨⟨_,rfl,cn⟩,bv⟩;(have dd:=((bh.new _).put bh.B _).trans bv;have d1:=Own.keep (Own.put (Own.new db _) _ _) bv;have b1:=bv.B;have a7:=bv.C;(try simp only[Aa,Ac]at b1 a7);have dj:AC _:=g.o _ cn;obtain⟨jh5,jb5,jc5,rfl,-⟩:=cn)))|refine Z3 ?_|exact Zt|apply ya.o;clear ya yb
     have di:AC _:=dj.o;refine⟨Z l-(i+1),AA,i+1,idn,R++[O],c++[my false,ic O.h.p,sl jh5 (Z O.h.ts) (Ad O.h.ts),sl jb5 (Z O.A) jc5],?_⟩
     ((repeat' refine Zi ?_ ?_)<;>first|exact Xq|exact (nn a6)|exact di|exact ((by simp[c6];omega))|exact (by rw[ae,a7 _ AA,Aj AA,Ah AA,a8 _ AA,Aj AA,Ah AA,a9 _ AA,Aj AA,Ah AA,am _ AA,Aj AA,Ah AA,an _ AA,Aj AA,Ah AA];assumption)|exact Xs)
   have cv:(Y.h.p !=A.p)=true:=by rw[E];simp[bb]
   have g:AC (R=Lo N (l.take (i+1)) x k a.B/\EL (T1 false) R c):=by
    rw[n];simp[Fw,bb];exact b.o
   clear n b D bf H W E f;refine mr ?_;refine⟨Z l-(i+1),AA,i+1,id,R,c,?_⟩;exact m9 g
 have cz:i=Z l:=AA;subst cz;obtain⟨e1,e2⟩:=b.o;rw[AS]at e1;have HF:AC (∀r,r=sl id (Z R) c->∃id c',r=sl id (Z (Lo N l x k a.B)) c'/\EL (T1 false) (Lo N l x k a.B) c'):=λr hr=>by
  rw[<-e1];exact⟨id,c,hr,e2⟩
 clear b e1 e2;refine mr ?_
 first|exact⟨_,rfl,HF.o _ rfl,L⟩|exact⟨_,rfl,HF.o _ rfl⟩
def TL {α j:Type}{E}{i:j->oh->Prop}{f}:∀{l:List α} {cs:oh},EL E l cs->(∀a∈l,∀c,E a c->i (f a) c)->EL i (l.map f) cs
 |[],_,h,_=>h
 |a::l,_,⟨c,d,n,m,e⟩,g=>⟨c,d,g a nk c n,TL m (λb k=>g b (by simp[k])),e⟩
def uL (N:ol)(l:n0)(x:AB)(k:Nat)(q:Tx):n0:=(Lo N l x k q).map (Cz N)
def QD {N ar l}(c:BB N ar l){x}(i:x∈l)(d:x.o=false){k a}(n:x.A[k]?=some a){r}(h:r∈Lo N l x k a.B):∃s,GQ N ar s/\r=Fa s:=by
 have j:=λy b f=>sV (c.ru y b f) (c.gl.msr y b) f (c.wit y b);obtain⟨y,b,e⟩:=List.mem_filterMap.1 h;obtain⟨g,o⟩:=BP.1 b;simp only[Fw,BM,FJ,CV]at o;unfold Kt at e;rw[n]at e;obtain⟨P,u,rfl⟩:=Option.map_eq_some_iff.1 e;have p:=j x i d;have m:=(j y g o.1).pin SD;have q:Z (Ce N x).A<=5:=by simp[Ce];exact c.b5 x i
 have t:Z (Fj BU (Ce N y)).A<=5:=by simp[Fj,Ce];exact c.b5 y g
 have v:=p.bd (E6 N a) (by simp only[Ce,AN];exact⟨a,AY n,rfl⟩);exact⟨_,(p.join m k q t).pin (rK QZ v.w m.hd.w u),rfl⟩
def gs {N ar l}(i:BB N ar l){x}(f:x∈l)(b:x.o=false){k a}(g:x.A[k]?=some a){y}(h:y∈uL N l x k a.B)(d:Z y.A<=5):∃r,y=Cz N r/\FB N ar r/\Z r.A<=5:=by
 obtain⟨r,e,rfl⟩:=AN.1 h;obtain⟨s,j,rfl⟩:=QD i f b g e;have c:Z s.A<=5:=by simpa[Cz,Fa]using d
 exact⟨_,rfl,j.ord c,by simpa[Fa]using c⟩
def kf {N ar l}(q:BB N ar l){x}(m:x∈l)(b:x.o=false){k a}(p:x.A[k]?=some a){c}(h:EL (T1 false) (Lo N l x k a.B) c):EL (PJ N) (uL N l x k a.B) c:=by
 refine TL h λr j c e=>?_;obtain⟨s,g,rfl⟩:=QD q m b p j;have d:Z (Cz N (Fa s)).A=Z s.A:=by simp[Cz,Fa]
 have u:=g.bl;by_cases i:Z s.A<=5;have f:=g.ord i;exact .inl ⟨f.pi e,f.msr (by simp[Fa];omega)⟩;obtain⟨n,t,o,rfl,-⟩:=e;exact .inr ⟨by rw[d];omega,by rw[d];omega,false,(Fa s).h.p,n,Z (Fa s).h.ts,Ad (Fa s).h.ts,t,o,by rw[d];simp[Fa]⟩
def Ys {l}(h:Jk l=true):Z l<=16/\∀x∈l,Z x.A<=5:=by
 unfold Jk at h;simp only[BM,CV,CX]at h;exact⟨h.1,h.2.1⟩
def PJ.pi {N x c}(h:PJ N x c)(a:Z x.A<=5):PI N x c/\KL N x:=h.resolve_right λh=>by have:=h.1;omega
def FB.fits {N ar r}(h:FB N ar r)(d:Z r.A<=5):(Cz N r).fits:=by
 refine⟨by simp[Cz];omega,by have:=h.hd.le3;simp[Cz,N7];omega,λa b=>?_⟩;obtain⟨l,c,rfl⟩:=AN.1 b;have:=(h.bd l c).le3;simp[N7];omega
def MN (N:ol)(ar:Tx->Nat)(o:n0):Prop:=∀y∈o,Z y.A<=5->∃r,y=Cz N r/\FB N ar r/\Z r.A<=5
def OP {N ar l}(e:BB N ar l){x}(f:x∈l)(b:x.o=false){k a}(d:x.A[k]?=some a):MN N ar (uL N l x k a.B):=λy g c=>gs e f b d g c
def gu (N l x k q):Z (uL N l x k q)<=Z l:=by
 unfold uL Lo;rw[BV];exact BI (List.length_filterMap_le _ _) (IS _ _)
def SN {N ar l o}(k:BB N ar l)(u:MN N ar o)(i)(v:Jk (rpl i o l)=true):GL N (rpl i o l):=by
 obtain⟨s,q⟩:=Ys v;have g:∀y∈rpl i o l,y∈l\/∃r,y=Cz N r/\FB N ar r/\Z r.A<=5:=λy f=>by
  rcases Cy f with h|h;exact .inl h;exact .inr (u y h (q y f))
 refine⟨s,k.gl.nm,λy f=>?_,λy f=>?_,λy f=>?_,λy f=>?_,λy f=>?_⟩;rcases g y f with h|⟨r,rfl,hr,j⟩;exact k.gl.msr y h;exact hr.msr AA;rcases g y f with h|⟨r,rfl,hr,j⟩;exact k.gl.fits y h;exact hr.fits j;rcases g y f with h|⟨r,rfl,hr,j⟩;exact k.gl.pos y h;intro a p;obtain⟨m,b,rfl,g⟩:=hr.atoms p;simpa[N7]using g.pos;rcases g y f with h|⟨r,rfl,hr,j⟩;exact k.gl.va y h;intro a p w t;obtain⟨m,b,rfl,g⟩:=hr.atoms p;exact Me ((g.at b).2.2.2.2 w t);rcases g y f with h|⟨r,rfl,hr,j⟩;exact k.gl.ar y h;intro a p b j e;obtain⟨m,c,rfl,g⟩:=hr.atoms (Ap (.inr p));obtain⟨n,d,rfl,x⟩:=hr.atoms (Ap (.inr j));rw[(g.at c).2.2.1,(x.at d).2.2.1,e]
def SO {N ar l o}(a:BB N ar l)(g:MN N ar o)(k:Z o<=16)(i){c}(h:EL (PJ N) (rpl i o l) c):PK N (rpl i o l) c:=by
 have e:=a.gl.len;refine⟨h,?_,λb=>(SN a g i b).bkm (Qv h λy f c d=>(d.pi ((Ys b).2 y f)).1)⟩;have j:=Rj (n:=i) (o:=o) l (Z l);rw[AS]at j;have m:Z l*(Z o+1)<=16*17:=Nat.mul_le_mul e AA;omega
def Pw {l}(h:(Co l).1=0){x}(b:x∈l):Db x=true:=by
 unfold Co at h;split at h;cases h;split at h;cases h;rename_i c;obtain⟨i,a,e⟩:=List.getElem_of_mem b;have:=sB c i a;unfold Dp at this;rw[AK a,e]at this;simpa using this
def FB.wit {N ar r}(h:FB N ar r)(f:Z r.A<=5):Dc (Cz N r):=by
 have c:∀m b,IF N ar m->En (N7 N b m):=λm b d=>⟨(d.at b).2.1.1,by
  have:=d.pos;intro e;have:=congrArg List.length e;simp[N7]at this
  simp[this]at*,by simpa[N7]using d.le3,λt i=>((d.at b).2.2.2.2 t i).2.1⟩
 refine⟨(h.hd.at false).2.1.1,(λe=>by cases e),λ_=>⟨c _ _ h.hd,rfl,by simpa[Cz]using f,λa j=>?_⟩⟩;obtain⟨l,g,rfl⟩:=AN.1 j;exact c _ _ (h.bd l g)
def FB.wi {N ar r}(h:FB N ar r)(f:Z r.A<=5):WI N (Cz N r):=by
 have p:=h.wit f;have j:∀m b,IF N ar m->short (N7 N b m):=λm b c=>⟨(c.at b).2.1.2,by have:=c.le3;simp[N7];omega,λt k=>((c.at b).2.2.2.2 t k).2.2.1⟩;have g:∀m b,IF N ar m->VA (N7 N b m):=λm b c t k=>Me ((c.at b).2.2.2.2 t k);have o:∀a∈Af (Cz N r),WA N (Au (Cz N r)) a:=λa d=>by
  obtain⟨m,b,rfl,c⟩:=h.atoms d;exact⟨(c.at b).1,by simpa[N7]using c.pos,(j m b c).2.1,(c.at b).2.1.2,λw n=>⟨((c.at b).2.2.2.2 w n).1,((c.at b).2.2.2.2 w n).2.2.1,λq=>On p d n q⟩⟩
 refine⟨h.fits f,⟨j _ _ h.hd,λa d=>?_⟩,λa d=>?_,g _ _ h.hd,λa d=>?_,(h.hd.at false).1,by simpa[Cz]using f,(λe=>by cases e),λ_=>⟨rfl,o _ (Ap (.inl ⟨rfl,rfl⟩))⟩,λa d=>o a (Ap (.inr d))⟩;obtain⟨l,i,rfl⟩:=AN.1 d;exact j _ _ (h.bd l i);obtain⟨m,b,rfl,c⟩:=h.atoms d;exact g _ _ c;obtain⟨l,i,rfl⟩:=AN.1 d;exact g _ _ (h.bd l i)
def FB.ru {N ar r}(h:FB N ar r)(o:Db (Cz N r)=true):KP N ar (Cz N r):=by
 have i:∀m b,IF N ar m->ML N ar (N7 N b m):=λm b c=>⟨(c.at b).1,(c.at b).2.2.1,by simpa[N7]using c.le3⟩;have g:∀m b,IF N ar m->∀t∈(N7 N b m).A,VT t/\DT t:=λm b c t e=>⟨Me ((c.at b).2.2.2.2 t e),((c.at b).2.2.2.2 t e).1⟩;have j:∀a∈Af (Cz N r),VA a:=λa d t e=>by
  obtain⟨m,b,rfl,c⟩:=h.atoms d;exact (g m b c t e).1
 refine⟨i _ _ h.hd,rfl,λa d=>?_,g _ _ h.hd,λa d=>?_,λv c n=>?_⟩;obtain⟨l,f,rfl⟩:=AN.1 d;exact i _ _ (h.bd l f);obtain⟨l,f,rfl⟩:=AN.1 d;exact g _ _ (h.bd l f)
 obtain⟨b,k,-,p⟩:=W3 (by rw[J8 j];exact o) (λa d=>by
  obtain⟨m,b,rfl,c⟩:=h.atoms d
  exact (c.at b).2.2.2.2) (a:=(Cz N r).h) (Ap (.inl ⟨rfl,rfl⟩)) c n
 exact⟨b,k,p⟩
def OR {N ar l o}(c:BB N ar l)(f:MN N ar o)(i)(b:C5 N l (rpl i o l)=true):BB N ar (rpl i o l):=by
 unfold C5 at b;simp only[BM,DO]at b;obtain⟨g,-,k⟩:=b;have e:=(Ys g).2;have d:∀y∈rpl i o l,y∈l\/∃r,y=Cz N r/\FB N ar r/\Z r.A<=5:=λy a=>by
  rcases Cy a with h|h;exact .inl h;exact .inr (f y h (e y a))
 refine⟨SN c f i g,e,λy a j=>?_,λy a=>?_,λy a=>?_⟩;rcases d y a with h|⟨r,rfl,hr,b⟩;exact c.ru y h j;exact hr.ru (Pw k a);rcases d y a with h|⟨r,rfl,hr,b⟩;exact c.wi y h;exact hr.wi b;rcases d y a with h|⟨r,rfl,hr,b⟩;exact c.wit y h;exact hr.wit b
def Tg (N:ol)(U:Nat->Nat->Bool)(l:n0)(i k:Nat):Bool:=match l[i]? with
 |some x=>(match x.A[k]? with
  |some a=>!a.nt&&(!U (N.idxOf a.B) (N.idxOf a.B)&&(Dr N l (N.idxOf a.B)&&C5 N l (rpl i (uL N l x k a.B) l)))
  |none=>false)
 |none=>false
def xU (N:ol)(U:Nat->Nat->Bool)(l:n0)(n:Nat):Prop:=∀i y,i<n->l[i]?=some y->∀k,k<Z y.A->Tg N U l i k=false
def LY (N:ol)(l:n0)(idn:Nat)(x:AV)(b:Bool):Prop:=∃M,Dw N l M/\
 ((b=false/\xU N (F9 (Z N) M (Z N)) l (Z l))\/(b=true/\∃i k y a,l[i]?=some y/\y.o=false/\y.A[k]?=some a/\Tg N (F9 (Z N) M (Z N)) l i k=true/\xU N (F9 (Z N) M (Z N)) l i/\(∀d,d<k->Tg N (F9 (Z N) M (Z N)) l i d=false)/\∃id c,x=Cq N idn (rpl i (uL N l y k a.B) l) id c/\EL (PI N) (rpl i (uL N l y k a.B) l) c))
def SH {N}(x c)(h:PJ N x c):PM c:=by
 rcases h with⟨h,-⟩|⟨-,-,o,p,ih,n1,tc,ib,b,rfl⟩;exact pF h;exact⟨_,_,_,_,_,_,_,_,rfl⟩
def Q1 (N ar l cs idn idi)(hR:BB N ar l)(Q:EL (PI N) l cs)(z):
  ni 127 [Cq N idn l idi cs] z λr o=>(∃x b,r=tp [x,my b]/\LY N l idn x b/\pB x)/\AD z o:=by
 have T:=hR.gl;have cw:=EL.length Ew Q;have ba:=T.len;have hN:=T.nm;have b5:=λz=>P6 N l cs idn idi ((T.bkm Q).bk ba) z;have ck:AC (EL (PJ N) l cs):=Qv Q λx hx c hc=>.inl ⟨hc,T.msr x hx⟩;have HB:AC (JM N l cs):=T.bkm Q;have HR:AC (BB N ar l):=hR;clear T hR;refine Z9 71 [.cell 2 62,.tmp 3] Tryz.func127 ?_;refine m0 ?_;intro yb ya;refine Xi (b5 _) ?_;rintro _ _ ⟨idu,B,M0,rfl,be,ci,cz,br,b9⟩;(have bn:=be.B;have ai:=be.C;(try simp only[Aa,Ac]at bn ai ci));refine mr ?_;rename_i z1;have obk:z1.C z.B=[sl idn (Z N) (N.map str),sl idi (Z l) cs]:=by rw[ai _ AA,Ah AM,Ao]
 have obr:z1.C (z.B+1)=[nilS,nilS]:=by rw[ai _ AA];first|exact Ao|simp[Ao]
 have cd:AC (Dw N l M0):=b9;generalize b7:F9 (Z N) M0 (Z N)=U at br;have HU:AC _:=b7;have b8:AD z z1:=(((AD.refl z).new _).new _).trans be;clear b9 b7 be ai b5
 refine Ae (λm s o=>∃(i:Nat),m=Z l-i/\i<=Z l/\s 1=ptr z.B 0/\s 2=ptr (z.B+1) 0/\s 4=sl idu (Z N) (F3 B (Z N) (Z N))/\s 17=sl idi (Z l) cs/\s 18=ic (Z l)/\s 19=ic i/\AD z o/\z1.B<=o.B/\o.C z.B=[sl idn (Z N) (N.map str),sl idi (Z l) cs]/\o.C (z.B+1)=[nilS,nilS]/\AC (By B (Z N) U o)/\AC (xU N U l i)) (Z l)
  ⟨0,AA,AA,AG,AG,AG,AG,AG,rfl,b8,AA,obk,obr,br,λi y h=>AA⟩ ?_
 clear b8 obk obr br;rintro m s o ⟨i,rfl,hi,h1,h2,h4,cc,cb,ca,hK,ct,bh,bg,H,X⟩;have cn:=hK.B;by_cases b1:i<Z l
 ·have ak:=AK b1;have S:=AR b1;have b3:=HR.o.gl.fits l[i] S;have bz:=HR.o.gl.msr l[i] S;obtain⟨b0,ih,P,b,r,bd,hd⟩:=Ih Q ak;generalize l[i]=x at hd ak b0 bd S b3 bz;have cy:=b3.1;have cx:=EL.length Eh bd;have HG:AC (l[i]?=some x):=ak;clear ak
  refine mr ?_
  refine Ae (λm s C=>∃(k:Nat),m=Z x.A-k/\k<=Z x.A/\s 1=ptr z.B 0/\s 2=ptr (z.B+1) 0/\s 4=sl idu (Z N) (F3 B (Z N) (Z N))/\s 5=ic i/\s 6=ptr o.B 0/\s 17=sl idi (Z l) cs/\s 18=ic (Z l)/\s 19=ic i/\s 25=sl P (Z x.A) b/\s 26=ic (Z x.A)/\s 27=ic k/\AD z C/\o.B<C.B/\C.C z.B=[sl idn (Z N) (N.map str),sl idi (Z l) cs]/\C.C (z.B+1)=[nilS,nilS]/\C.C o.B=[my x.o,ic (N.idxOf x.h.B:Nat),sl ih (Z x.h.A) (A0 x.h.A),sl P (Z x.A) b]/\AC (By B (Z N) U C)/\AC (∀d,d<k->Tg N U l i d=false)) (Z x.A)
   ⟨0,AA,AA,AI,AI,AI,AI,AI,AI,AI,AI,AG,AG,AG,Xs,BJ,by rw[Aj AA,Ah AA,bh],by rw[Aj AA,Ah AA,bg],by rw[Ak],By.put (By.new H.o AA _) AA _,λd h=>AA⟩ ?_
  clear h1 h2 h4 cc cb ca hK bh bg H;rintro m s C ⟨k,rfl,hk,h1,h2,h4,h5,h6,cc,cb,ca,c8,c7,c5,hK,cg,bh,bg,ce,H,bb⟩;have cf:=hK.B;by_cases az:k<Z x.A
  ·have f:x.o=false:=by
    cases h:x.o with
    |false=>rfl
    |true=>rw[bz.o h]at az;cases az
   have G:=AK az;obtain⟨b4,ia,ra,bc⟩:=Pu bd G;generalize x.A[k]=a at G b4 bc;have g:Tg N U l i k=(!a.nt&&(!U (N.idxOf a.B) (N.idxOf a.B)&&(Dr N l (N.idxOf a.B)&&C5 N l (rpl i (uL N l x k a.B) l)))):=by unfold Tg;rw[HG.o];dsimp only;rw[G]
   have A:AC (Tg N U l i k=false->∀d,d<k+1->Tg N U l i d=false):=λhf d b2=>by
    rcases FT d k with h|h
    ·exact bb.o d h
    rw[show d=k by omega,hf]
   have hp:=CS b4;have F:=λz=>Nh N l cs idn idi (N.idxOf a.B) Q AA z
   have D:=λc (hc:PI N x c) z=>(Uo N ar l cs idn idi HR.o Q x c k a S f hc G z).mono (R':=λr o=>(∃id e,r=sl id (Z (uL N l x k a.B)) e/\EL (PJ N) (uL N l x k a.B) e)/\AD z o) (λr o h=>by
    obtain⟨⟨id,e,rfl,h1⟩,h2⟩:=h
    exact⟨⟨id,e,by simp[uL],kf HR.o S f G h1⟩,h2⟩)
   have ap:Z (uL N l x k a.B)<=16:=BI (gu _ _ _ _ _) ba;have b6:Z (uL N l x k a.B)<=1000:=AA;have O:=λco ido (h:EL (PJ N) (uL N l x k a.B) co) z=>Nb (E:=PJ N) SH N l (uL N l x k a.B) cs co idn idi ido i ck.o h AA b6 z;have q:=λe id' (h:EL (PJ N) (rpl i (uL N l x k a.B) l) e) z=>Ib N l (rpl i (uL N l x k a.B) l) cs e idn idi id' HB.o (SO HR.o (OP HR.o S f G) ap i h) z;have t:AC (∀e,C5 N l (rpl i (uL N l x k a.B) l)=true->EL (PJ N) (rpl i (uL N l x k a.B) l) e->EL (PI N) (rpl i (uL N l x k a.B) l) e):=λe hb h=>by
    unfold C5 at hb;simp only[BM]at hb;exact Qv h λy hy c hc=>(hc.pi ((Ys hb.1).2 y hy)).1
   have u:AC (∀id e I,Tg N U l i k=true->I=Cq N idn (rpl i (uL N l x k a.B) l) id e->EL (PI N) (rpl i (uL N l x k a.B) l) e->LY N l idn I true):=λid e I ho bo bp=>⟨M0,cd.o,by
    rw[HU.o]
    exact .inr ⟨rfl,i,k,x,a,HG.o,f,G,ho,X.o,bb.o,id,e,bo,bp⟩⟩
   have bq:=PI.of (ih:=ih) (id:=P) b0 bd;rw[f]at ce bq;have cj:AC _:=bq;clear bq G bb;cases K:a.nt with
   |true=>
    have M:AC (∀d,d<k+1->Tg N U l i d=false):=A.o (by rw[g,K];rfl);rw[K]at bc;clear g A F D O q t u;refine mr ?_;refine⟨Z x.A-(k+1),AA,k+1,?_⟩
    ((repeat' refine Zi ?_ ?_)<;>first|exact Xq|exact M|exact (by rw[f];assumption)|exact (By.put (By.new H.o AA _) AA _)|exact Xs)
   |false=>
    rw[K]at bc g;generalize N.idxOf a.B=p at bc hp g F;have cr:=I6 (B:=B) (n:=Z N) (k:=Z N) hp;have cq:=I5 B (Z N) (Z N);have cu:=H.o _ hp;have cp:=E0 (Z N) (U p);have bw:=Hh (U p) hp;have aj:∀cs',(C.new cs').C (B+p)=C.C (B+p):=λcs'=>Ah AA;cases J:U p p with
    |true=>
     have M:AC (∀d,d<k+1->Tg N U l i d=false):=A.o (by rw[g,J];rfl);rw[J]at bw;clear g A F D O q t u aj J;refine mr ?_;refine⟨Z x.A-(k+1),AA,k+1,?_⟩
     ((repeat' refine Zi ?_ ?_)<;>first|exact Xq|exact M|exact (by rw[f];assumption)|exact (By.put (By.new H.o AA _) AA _)|exact Xs)
    |false=>
     rw[J]at bw g;cases R:Dr N l p with
     |false=>
      have M:AC (∀d,d<k+1->Tg N U l i d=false):=A.o (by rw[g,R];rfl);rw[R]at F;clear g A D O q t u aj J R;refine m0 ?_;intro yb ya;refine Xi (F _) ?_;rintro _ _ ⟨rfl,v⟩;(have ad:=v.B;have ac:=v.C;(try simp only[Ac,Aa]at ad ac));refine mr ?_;refine⟨Z x.A-(k+1),AA,k+1,?_⟩
      ((repeat' refine Zi ?_ ?_)<;>first|exact Xq|exact M|exact (by rw[f];assumption)|exact (By.keep (By.put (By.new H.o AA _) AA _) v BJ)|exact Xs)
     |true=>
      rw[R]at F g;simp only[JX,FV]at g;rw[<-g]at q t;clear ap;generalize uL N l x k a.B=V at D O q t u b6;generalize rpl i V l=W at O q t u;have D:=λz=>D _ cj.o z;cases Y:Tg N U l i k with
      |true=>
       rw[Y]at q t;have cm:AC (∀id e I,I=Cq N idn W id e->EL (PJ N) W e->LY N l idn I true):=λid e I bo bp=>u.o id e I Y bo (t.o e rfl bp);clear g A t u aj J R Y X
       (repeat (refine m0 ?_;intro yb ya;(first|(refine Xi (F _) ?_;rintro _ _ ⟨rfl,v⟩;(have ad:=v.B;have ac:=v.C;(try simp only[Ac,Aa]at ad ac)))|(refine Xi (D _) ?_;rintro _ _ ⟨⟨id4,c4,rfl,bu⟩,a9⟩;(have ay:=a9.B;have aw:=a9.C;(try simp only[Ac,Aa]at ay aw)))|(refine Xi (O _ _ bu _) ?_;rintro _ _ ⟨⟨L,c6,rfl,bf⟩,a8⟩;(have ax:=a8.B;have av:=a8.C;(try simp only[Ac,Aa,Az]at ax av)))|(refine Xi (q c6 L bf _) ?_;rintro _ _ ⟨⟨x7,rfl,bv,⟨id71,n71,c71,id72,n72,c72,rfl⟩⟩,a7⟩;(have bm:=a7.B;have bi:=a7.C)))));refine mr ?_
       exact⟨_,rfl,⟨_,true,rfl,cm.o _ _ _ (bv rfl) bf,_,_,_,_,_,_,rfl⟩,Xs⟩
      |false=>
       rw[Y]at q;have M:AC (∀d,d<k+1->Tg N U l i d=false):=A.o Y;clear g A t u aj J R Y
       (repeat (refine m0 ?_;intro yb ya;(first|(refine Xi (F _) ?_;rintro _ _ ⟨rfl,v⟩;(have ad:=v.B;have ac:=v.C;(try simp only[Ac,Aa]at ad ac)))|(refine Xi (D _) ?_;rintro _ _ ⟨⟨id4,c4,rfl,bu⟩,a9⟩;(have ay:=a9.B;have aw:=a9.C;(try simp only[Ac,Aa]at ay aw)))|(refine Xi (O _ _ bu _) ?_;rintro _ _ ⟨⟨L,c6,rfl,bf⟩,a8⟩;(have ax:=a8.B;have av:=a8.C;(try simp only[Ac,Aa,Az]at ax av)))|(refine Xi (q c6 L bf _) ?_;rintro _ _ ⟨⟨x7,rfl,bv,⟨id71,n71,c71,id72,n72,c72,rfl⟩⟩,a7⟩;(have bm:=a7.B;have bi:=a7.C)))));refine mr ?_
       refine⟨Z x.A-(k+1),AA,k+1,?_⟩
       ((repeat' refine Zi ?_ ?_)<;>first|exact Xq|exact M|exact (by rw[f];assumption)|exact (By.put (By.new (By.keep (By.put (By.new H.o AA _) AA _) (((v.trans a9).trans a8).trans a7) BJ) AA _) AA _)|exact Xs)
  have cv:k=Z x.A:=AA;have HA:AC (xU N U l (i+1)):=λj y hj hy d b2=>by
   rcases FT j i with h|h
   ·exact X.o j y h hy d b2
   have:j=i:=AA;subst this;rw[HG.o]at hy;cases hy;exact bb.o d AA
  clear bb HG X;refine mr ?_;refine⟨Z l-(i+1),AA,i+1,?_⟩;exact m9 HA
 have ch:i=Z l:=AA;subst ch;have u:AC (∀x,LY N l idn x false):=λx=>⟨M0,cd.o,by rw[HU.o];exact .inl ⟨rfl,X.o⟩⟩;clear X;refine mr ?_;exact⟨_,rfl,⟨_,false,rfl,u.o _,_,_,_,_,_,_,rfl⟩,Xs⟩
end Go.Proofs.YtmoeoppbmhfbpabGreatDoorJ
