import Derived.Test.YtmoeoppbmhfbpabGreatDoorJEngO
import Derived.Test.YtmoeoppbmhfbpabGreatDoorJFacts
import Derived.Test.YtmoeoppbmhfbpabGreatDoorJDocJ
set_option maxHeartbeats 64000000
set_option maxRecDepth 100000
set_option linter.all false
open List renaming length->Z
namespace Go.Proofs.YtmoeoppbmhfbpabGreatDoorJ
open Go.Abs
def sJ {l i}(a:i<Z l)(b v):lsp (Ad l) (i*2) [my b,ic v]=Ad (l.set i (b,v)):=by
 have d:=Cx l;rw[Hw _ _ _ (by rw[d];simp;omega)];have e:l=l.take i++l[i]::l.drop (i+1):=by rw[<-ET a,KD]
 have e2:l.set i (b,v)=l.take i++(b,v)::l.drop (i+1):=by
  rw[List.set_eq_take_append_cons_drop,if_pos a]
 have g:Z (Ad (l.take i))=i*2:=by
  rw[Cx,CN,ER (Nat.le_of_lt a)]
 have c:Ad l=Ad (l.take i)++(Js l[i]++Ad (l.drop (i+1))):=by
  unfold Ad
  conv=>lhs;rw[e]
  rw[KC,DN]
 have f:Ad (l.set i (b,v))=Ad (l.take i)++(Js (b,v)++Ad (l.drop (i+1))):=by
  rw[e2];simp[Ad]
 rw[f,c,<-g,List.take_left,CR];congr 1;congr 1;rw[show Z (Ad (l.take i))+Z [my b,ic v]=Z (Ad (l.take i))+Z (Js l[i]) by rfl,List.drop_length_add_append,List.drop_left]
def Nz {l i}(a:i<Z l)(b v):((Ad l).set (i*2) (my b)).set (i*2+1) (ic v)=Ad (l.set i (b,v)):=sJ a b v
def Gx (l):(Ad l).all flat=true:=by
 rw[CX];intro x b;obtain⟨t,-,a⟩:=EX.1 b;simp[Js]at a;rcases a with rfl|rfl<;>rfl
def CY:List Tm:=List.replicate 52 (false,0)
def Oj:PT.map cst1=Ad CY:=rfl
def G9 {P}(h:Z P=52):Z (Ad P)=104:=by rw[Cx,h]
def H5 {P}(h:Z P=52):List.take 104 (Ad P)=Ad P:=FZ (by rw[G9 h];exact AU _)
def ZB {l xs}(h:Z xs=Z l):lsp l 0 xs=xs:=by
 rw[Hw _ _ _ AA,DY,h,IZ];simp
def P7 {P Q}(a:Z P=52)(b:Z Q=52):lsp (Ad P) 0 (Ad Q)=Ad Q:=ZB (by rw[G9 a,G9 b])
def U9:Z (Ad CY)=104:=G9 (by simp[CY])
def Hl (P:List Tm)(t:Tm):Tm:=if t.1=true then (P[t.2.toNat]?).getD t else t
def Us (P:List Tm)(v t:Tm):List Tm:=P.map λx=>if x=v then t else x
def qB {α:Type}{A P:List α}{k x}(b:k<Z P)(a:A[k]?=some x):(A.take k++P.drop k).set k x=A.take (k+1)++P.drop (k+1):=by
 have c:=(BA.1 a).1;rw[List.set_append,if_neg (by rw[CN];omega),CN,ER AA,GX,ET b,List.set_cons_zero,AT,a];simp
def zU (t:Tm):Prop:=t.1=true->∃k:Nat,k<52/\t.2=(k:Int)
def X0 (P)(g:Z P=52)(t)(i:zU t)(j):ni 245 [ag (Ad P),ag [my t.1,ic t.2]] j λr f=>r=ag [my ((Hl P t).1),ic (Hl P t).2]/\AD j f:=by
 have l:=G9 g;have n:=Gx P;obtain⟨b,v⟩:=t;cases b with
 |true=>
  obtain⟨k,m,e⟩:=i rfl;dsimp only at e;subst e;have a:=AK (show k<Z P by omega);obtain⟨r,d⟩:=C3 a;have c:AC (Hl P (true,(k:Int))=P[k]):=by
   rw[AC,Hl,if_pos rfl];simp only[DK];rw[a];rfl
  generalize P[k]=w at d c;clear a;refine Z9 12 [.cell 4 151] Tryz.func245 ?_;refine mr ?_;exact⟨_,rfl,by rw[c.o],Xs⟩
 |false=>
  refine Z9 12 [.cell 4 151] Tryz.func245 ?_;refine mr ?_;exact⟨_,rfl,rfl,Xs⟩
def lT (P)(C:Z P=52)(v t j):ni 246 [ag (Ad P),ag [my v.1,ic v.2],ag [my t.1,ic t.2]] j λr d=>r=ag (Ad (Us P v t))/\AD j d:=by
 have X:=U9;have a0:=Gx;have hz:=Oj;obtain⟨c,a⟩:=v;obtain⟨f,g⟩:=t;refine Z9 21 [.cell 6 260] Tryz.func246 ?_;refine mr ?_
 refine Ae (λm s d=>∃(k:Nat) (Q:List Tm),m=52-k/\k<=52/\s 3=ptr j.B 0/\s 4=ptr (j.B+1) 0/\s 5=ptr (j.B+2) 0/\s 6=ptr (j.B+3) 0/\s 8=ic k/\AD j d/\j.B+3<d.B/\d.C j.B=Ad Q/\d.C (j.B+1)=[my c,ic a]/\d.C (j.B+2)=[my f,ic g]/\d.C (j.B+3)=Ad CY/\Z Q=52/\AC (Q=(Us P (c,a) (f,g)).take k++P.drop k)) 52
  ⟨0,P,AA,AA,AG,AG,AG,AG,AG,Xs,AM,?_,?_,?_,?_,C,by simp[AC]⟩ ?_
 ·rw[Ah AM,Ah AM,Ah AM,Ao]
 ·rw[Ah AM,Ah AM,Be AM AM]
 ·rw[Ah AM,Be AM AM]
 ·rw[Be AM AM]
 rintro m s d ⟨k,Q,rfl,hk,J,N,O,U,L,K,aw,an,W,ak,Y,B,u⟩;have ao:=K.B;have ay:=G9 B;have ap:=H5 B;have av:=P7 (P:=CY) (by simp[CY]) B;by_cases ax:k<52
 ·have G:k<Z P:=AA;have D:P[k]?=some P[k]:=AK G;have V:Z (Us P (c,a) (f,g))=52:=by simp[Us,C]
  have E:Q[k]?=some P[k]:=by
   rw[u.o,JY (by rw[CN];omega),CN,ER AA,GX,IJ,GZ,D]
  have z:AC (Q.set k (if P[k]=(c,a)then (f,g)else P[k])=(Us P (c,a) (f,g)).take (k+1)++P.drop (k+1)):=by
   have I:(Us P (c,a) (f,g))[k]?=some (if P[k]=(c,a)then (f,g)else P[k]):=by rw[Us,DC,D];rfl
   rw[AC,u.o,qB G I]
  obtain⟨r,M⟩:=C3 E;have au:=λb v=>Nz (l:=Q) (i:=k) AA b v;have H:AC (Q.set k P[k]=Q):=by
   have:=(BA.1 E).2;rw[AC,<-this,List.set_getElem_self]
  generalize P[k]=w at M z H;obtain⟨A,q⟩:=w;have T:∀x,Z (Q.set k x)=52:=λx=>by rw[LC,B]
  clear D E u;refine mr ?_;refine A2 (Q:=λe o y=>e= .normal/\o 15=my (A==c&&q==a)/\o 3=ptr j.B 0/\o 4=ptr (j.B+1) 0/\o 5=ptr (j.B+2) 0/\o 6=ptr (j.B+3) 0/\o 7=ic k/\o 8=ic k/\y=d) ?_ ?_
  ·refine Ar Ag (λ_=>True) [] [0,1,2,3,4] 0 (nv 5 31) AH (λ_ _ _ h=>by cases h.1) ?_;intro yb ya;refine Z3 ?_;refine ya.o _ ?_;clear ya yb;exact Aw AH ⟨rfl,AI,AI,AI,AI,AI,AI,AI,rfl⟩
  clear J N O U L;rintro e o y ⟨rfl,n,g3,g4,g5,g6,g7,g8,rfl⟩;by_cases p:(A,q)=(c,a)
  ·rw[if_pos p]at z;have F:(A==c&&q==a)=true:=by simp at p;simp[p]
   rw[F]at n;clear p;refine Cj n ?_;refine mr ?_;refine⟨52-(k+1),AA,k+1,Q.set k (f,g),?_⟩
   ((repeat' refine Zi ?_ ?_)<;>first|exact Xq|exact z|exact (T _)|exact Xs)
  rw[if_neg p,H.o]at z;have F:(A==c&&q==a)=false:=by
   cases h:(A==c&&q==a)with
   |false=>rfl
   |true=>simp at h;exact absurd (by rw[h.1,h.2]) p
  rw[F]at n;clear p;refine De n ?_;refine mr ?_;refine⟨52-(k+1),AA,k+1,Q,?_⟩;exact m9 z
 have S:k=52:=AA;subst S;have R:AC (Us P (c,a) (f,g)=Q):=by
  rw[AC,u.o,FZ (by simp[Us,C]),JU AA,EJ]
 clear u;refine mr ?_;exact⟨_,rfl,by rw[R.o],Xs⟩
def P9 (P:List Tm)(a:Dx):Dx:=⟨a.p,a.ts.map (Hl P)⟩
def dU (P)(y:Z P=52)(a:Dx)(ids)(ha:∀t∈a.ts,zU t)(hn:Z a.ts<=1000)(j):ni 247 [ag (Ad P),ag [ic a.p,sl ids (Z a.ts) (Ad a.ts)]] j λr b=>(∃id,r=ag [ic a.p,sl id (Z a.ts) (Ad (a.ts.map (Hl P)))])/\AD j b:=by
 have hl:=G9 y;have bc:=H5 y;have bd:=Gx P;have bb:=Cx a.ts;refine Z9 28 [.cell 4 122] Tryz.func247 ?_;refine mr ?_
 refine Ae (λm s b=>∃(k q:Nat) (f:oh),m=Z a.ts-k/\k<=Z a.ts/\s 2=ptr j.B 0/\s 4=ptr (j.B+2) 0/\s 5=ptr (j.B+3) 0/\s 12=sl ids (Z a.ts) (Ad a.ts)/\s 13=ic (Z a.ts)/\s 14=ic k/\AD j b/\j.B+3<b.B/\b.C j.B=Ad P/\b.C (j.B+2)=[ic 0,nilS]/\b.C (j.B+3)=[ic a.p,sl q k f]/\Own j b q k/\Z f=k*2/\AC (f=Ad ((a.ts.take k).map (Hl P)))) (Z a.ts)
  ⟨0,1,[],AA,AA,by simp[upd,AL],AG,AG,AG,AG,rfl,?_,?_,?_,?_,?_,Own.nil _ _,nk,by simp[AC,Ad]⟩ ?_
 ·exact (((((AD.refl j).new _).new _).new _).new _).put AA _
 ·simp only[Ac,Aa];omega
 ·rw[Aj AA,Ah AM,Ah AM,Ah AM,Ao]
 ·rw[Aj AA,Ah AM,Be AM AM]
 ·rw[show j.B+3=j.B+1+1+1 by omega,Ak]
 rintro m s b ⟨k,q,f,rfl,hk,N,U,V,I,K,O,n,A,F,D,C,z,H,u⟩;have ba:=n.B;by_cases L:k<Z a.ts
 ·have v:=AK L;have G:=ha a.ts[k] (AR L);obtain⟨r2,a7⟩:=C3 v;generalize a.ts[k]=w at a7 v G;have W:AC (f++Js (Hl P w)=Ad ((a.ts.take (k+1)).map (Hl P))):=by
   rw[AC,AT,v,BN,EU,List.map_singleton,Uj,<-u.o]
  have x:=λj=>X0 P y w G j;have aw:AC _:=H;clear v G u;generalize Hl P w=w' at W x;obtain⟨w1,J⟩:=w';dsimp only at x;refine mr ?_;have R:AD j ((b.new [my false,ic 0]).put b.B [my w.1,ic w.2]):=(n.new _).put n.B _;have S:∀p,p<b.B->((b.new [my false,ic 0]).put b.B [my w.1,ic w.2]).C p=b.C p:=λp Y=>by rw[Aj AA,Ah AA]
  refine A2 (Q:=λe l c=>e= .normal/\l 2=ptr j.B 0/\l 4=ptr (j.B+2) 0/\l 5=ptr (j.B+3) 0/\l 12=sl ids (Z a.ts) (Ad a.ts)/\l 13=ic (Z a.ts)/\l 14=ic k/\AD j c/\j.B+3<c.B/\c.C j.B=Ad P/\c.C (j.B+2)=[ic 0,nilS]/\∃d,c.C (j.B+3)=[ic a.p,sl d (k+1) (f++[my w1,ic J])]/\Own j c d (k+1)) ?_ ?_
  ·refine Ar Ag (λ_=>True) [8] [0,1,2,3] 5 (nv 9 15) AH (λ_ _ _ h=>by cases h.1) ?_;intro yb ya;refine Z3 ?_;refine ya.o _ ?_;clear ya yb;refine Ai (i:=4) AH ?_;refine Am ?_;intro yb ya;refine Z3 ?_;refine AF.mono (x _) ?_;rintro _ j5 ⟨rfl,g⟩;refine Z3 ?_;refine ya.o _ _ ⟨Al g,?_⟩;clear ya yb;have av:=g.B;have M:=g.C;simp only[Ac,Aa]at av M;have a9:=R.trans g;have a8:=Own.keep (Own.put (Own.new z [my false,ic 0]) b.B [my w.1,ic w.2]) g;refine Ai (i:=5) AH ?_;refine Am ?_;intro yb ya;refine Z3 ?_;refine ya.o _ _ ⟨Al (g.lay 1),?_⟩;clear ya yb;refine Ai (i:=6) AH ?_;refine Am ?_;intro yb ya;refine Z3 ?_;refine Bo (by first|exact Gl) a9 a8 nr (by rfl) H (by rfl) (by rfl) nr AA AA ?_;intro d X ak am ad ab T aa;refine Z3 ?_;refine ya.o _ _ ⟨λ_ o B _=>by rw[T];exact g.ver o B,?_⟩;clear ya yb;refine Ai (i:=7) AH ?_;refine Am ?_;intro yb ya;refine Z3 ?_;refine ya.o _ _ ⟨λ_ o B _=>by rw[T];exact g.ver o B,?_⟩;clear ya yb;have E:∀p,p<b.B->X.C p=b.C p:=λp Y=>by rw[ad,M _ AA,S _ Y]
   have en1:X.C (j.B+3)=[ic a.p,sl q k f]:=by rw[E _ A,C]
   refine Ai (i:=8) AH ?_;refine Am ?_;intro yb ya;refine Z3 ?_;refine ya.o _ _ ⟨A3 rfl,?_⟩;clear ya yb;refine Aw AH ⟨rfl,?_⟩;simp only[upd,↓reduceIte,Nat.reduceEqDiff,N,U,V,I,K,O,GM];refine⟨am.put AA _,by simp only[Ac];omega,?_,?_,d,?_,Own.put ak _ _⟩
   ·rw[Aj AA,E _ AA,F]
   ·rw[Aj AA,E _ AA,D]
   rw[Ak]
  clear S R z H F D C A x N U V I K O;rintro e l c ⟨rfl,g2,g4,g5,g12,g13,g14,n,A,F,D,d,C,z⟩;refine mr ?_;refine⟨Z a.ts-(k+1),AA,k+1,d,f++[my w1,ic J],?_⟩
  ((repeat' refine Zi ?_ ?_)<;>first|exact Xq|exact W|exact (by rw[AX,aw.o];simp;omega)|exact Xs)
 have a6:k=Z a.ts:=AA;subst a6;rw[AS]at u;refine mr ?_;exact⟨_,rfl,⟨q,by rw[u.o]⟩,n.put AA _⟩
def qX (P:List Tm)(l:Lit):Lit:=⟨l.neg,P9 P l.a⟩
def Fj (P:List Tm)(r:E3):E3:=⟨P9 P r.h,r.A.map (qX P)⟩
def T1 (o:Bool)(r:E3)(c:oh):Prop:=∃b d a,c=[my o,ic r.h.p,sl b (Z r.h.ts) (Ad r.h.ts),sl d (Z r.A) a]/\EL Sq r.A a
structure LP (r:E3):Prop where
 h3:Z r.h.ts<=3
 b3:∀l∈r.A,Z l.a.ts<=3
 bl:Z r.A<=100
 hv:∀t∈r.h.ts,zU t
 bv:∀l∈r.A,∀t∈l.a.ts,zU t
def dT (P)(n:Z P=52)(r)(i:LP r)(o c)(hc:T1 o r c)(j):ni 212 [ag (Ad P),ag c] j λx b=>(∃E,x=ag E/\T1 false (Fj P r) E)/\AD j b:=by
 obtain⟨L,R,bc,rfl,J⟩:=hc;have hl:=G9 n;have a7:=H5 n;have a9:=Gx P;have ba:=EL.length Hk J;have bb:=i.bl;have H:=λj=>dU P n r.h L i.hv (by have:=i.h3;omega) j;have F:=λ(l:Lit) (h:l∈r.A) (A:Nat) j=>dU P n l.a A (i.bv l h) (by have:=i.b3 l h;omega) j;refine Z9 33 [.cell 4 125] Tryz.func212 ?_;refine m0 ?_;intro yb ya;refine Xi (H _) ?_;rintro _ _ ⟨⟨g,rfl⟩,z⟩;(have X:=z.B;have q:=z.C;simp only[Aa]at X q);refine mr ?_;rename_i f;have U:AD j f:=Xs;have D:f.C j.B=Ad P:=by rw[q _ AA,Ah AM,Ah AM,Ao]
 have C:f.C (j.B+2)=[my false,ic 0,nilS,nilS]:=by rw[q _ AA,Be AM AM]
 clear H q
 refine Ae (λm s b=>∃(k y:Nat) (d:oh),m=Z r.A-k/\k<=Z r.A/\s 2=ptr j.B 0/\s 4=ptr (j.B+2) 0/\s 5=ptr f.B 0/\s 14=sl R (Z r.A) bc/\s 15=ic (Z r.A)/\s 16=ic k/\AD j b/\f.B<b.B/\b.C j.B=Ad P/\b.C (j.B+2)=[my false,ic 0,nilS,nilS]/\b.C f.B=[my false,ic r.h.p,sl g (Z r.h.ts) (Ad (r.h.ts.map (Hl P))),sl y k d]/\Own j b y k/\Z d=k*3/\AC (EL Sq ((r.A.take k).map (qX P)) d)) (Z r.A)
  ⟨0,1,[],AA,AA,by simp[upd,AL],AG,AG,AG,AG,rfl,Xs,BJ,by rw[Aj AA,Ah AA,D],by rw[Aj AA,Ah AA,C],by rw[Ak],Own.nil _ _,nk,by simp[AC,EL]⟩ ?_
 clear D C U z;rintro m s b ⟨k,y,d,rfl,hk,h2,h4,h5,bf,be,bd,p,a8,a5,a4,a3,Q,aw,u⟩;have a6:=p.B;by_cases I:k<Z r.A
 ·have v:=AK I;obtain⟨G,rr,V⟩:=H8 J v;have K:=λj=>F r.A[k] (AR I) G j;generalize r.A[k]=a at V v K;have S:AC (∀e,EL Sq ((r.A.take (k+1)).map (qX P)) (d++[my a.neg,ic a.a.p,sl e (Z a.a.ts) (Ad (a.a.ts.map (Hl P)))])):=λe=>by
   rw[AT,v,BN,EU];exact EL.append u.o (EL.single ⟨e,by simp[qX,P9]⟩)
  clear v u F;refine m0 ?_;intro yb ya;refine Xi (K _) ?_;rintro _ _ ⟨⟨e,rfl⟩,t⟩;(have M:=t.C;have an:=t.B;simp only[Aa,Ac]at an M);refine nh ?_;intro yb ya;rename_i j4;have N:=((p.new [my false,ic 0,nilS]).put p.B _).trans t;have T:=Own.keep (Own.put (Own.new Q [my false,ic 0,nilS]) b.B [my a.neg,ic a.a.p,sl G (Z a.a.ts) (Ad a.a.ts)]) t;refine Bo (by first|exact G5) (N.put AA _) (Own.put T _ _) nr (by rfl) aw (by rfl) (by rfl) nr AA AA ?_;intro B jn Y O af W ae ab;simp only[Ac,Aa]at W;refine Z3 ?_;refine mr ?_;refine⟨Z r.A-(k+1),AA,k+1,B,d++[my a.neg,ic a.a.p,sl e (Z a.a.ts) (Ad (a.a.ts.map (Hl P)))],?_⟩
  ((repeat' refine Zi ?_ ?_)<;>first|exact Xq|exact (S.o e)|exact (O.put AA _)|exact (Own.put Y _ _)|exact Xs)
 have ax:k=Z r.A:=AA;subst ax;rw[AS]at u;refine mr ?_;exact⟨_,rfl,⟨_,rfl,g,y,d,by simp[Fj,P9],u.o⟩,p.put AA _⟩
def BU:List Tm:=(List.range 52).map λ(i:Nat)=>if i<26 then (true,(26:Int)+i)else (false,0)
def oV:Z BU=52:=by simp[BU]
def apart_spec (r)(p:LP r)(o c)(f:T1 o r c)(j):ni 209 [ag c] j λx a=>(∃d,x=ag d/\T1 false (Fj BU r) d)/\AD j a:=by
 have B:=λj=>dT BU oV r p o c f j;obtain⟨q,C,G,rfl,T⟩:=f;have ax:=U9;have N:=Oj;refine Z9 17 [.cell 2 125] Tryz.func209 ?_;refine mr ?_
 refine Ae (λm s a=>∃(k:Nat) (Q:List Tm),m=26-k/\k<=26/\s 1=ptr j.B 0/\s 2=ptr (j.B+1) 0/\s 3=ptr (j.B+2) 0/\s 4=ic k/\AD j a/\j.B+2<a.B/\a.C j.B=[my o,ic r.h.p,sl q (Z r.h.ts) (Ad r.h.ts),sl C (Z r.A) G]/\a.C (j.B+1)=[my false,ic 0,nilS,nilS]/\a.C (j.B+2)=Ad Q/\Z Q=52/\AC (Q=BU.take k++CY.drop k)) 26
  ⟨0,CY,AA,AA,AG,AG,AG,AG,Xs,AM,?_,?_,?_,by simp[CY],by simp[AC]⟩ ?_
 ·rw[Ah AM,Ah AM,Ao]
 ·rw[Ah AM,Be AM AM]
 ·rw[Be AM AM]
 rintro m s a ⟨k,Q,rfl,K,P,L,O,X,E,W,M,J,U,e,b⟩;have V:=E.B;have I:=G9 e;by_cases u:k<26
 ·have z:AC (Q.set k (true,(26:Int)+k)=BU.take (k+1)++CY.drop (k+1)):=by
   rw[AC,b.o,qB (by simp[CY];omega)];simp[BU,u,show k<52 by omega]
  have S:=Nz (l:=Q) (i:=k) AA true ((26:Int)+k);have y:∀x,Z (Q.set k x)=52:=λx=>by rw[LC,e]
  clear b;refine mr ?_;refine⟨26-(k+1),AA,k+1,Q.set k (true,(26:Int)+k),?_⟩
  ((repeat' refine Zi ?_ ?_)<;>first|exact Xq|exact z|exact (y _)|exact Xs)
 have v:k=26:=AA;subst v;have t:Q=BU:=by rw[b.o];rfl
 subst t;have ap:=H5 e;clear b;refine m0 ?_;intro yb ya;refine Xi (B _) ?_;rintro _ _ ⟨⟨d,rfl,H⟩,g⟩;(have Y:=g.B;have R:=g.C;obtain⟨F,D,n,rfl,A⟩:=H);refine mr ?_;exact⟨_,rfl,⟨_,rfl,F,D,n,rfl,A⟩,Xs⟩
def Np (P:List Tm)(t u:Tm):Option (List Tm):=
 if Hl P t=Hl P u then some P else if (Hl P u).1=true then some (Us P (Hl P u) (Hl P t))else if (Hl P t).1=true then some (Us P (Hl P t) (Hl P u))else none
def Dy:List Tm->List Tm->List Tm->Option (List Tm)
 |P,[],_=>some P
 |_,_::_,[]=>none
 |P,t::b,u::a=>(Np P t u).bind λc=>Dy c b a
def BY:List Tm:=(List.range 52).map λ(i:Nat)=>(true,(i:Int))
def Ni:Z BY=52:=by simp[BY]
def PF:Option (List Tm)->AV
 |some P=>tp [ag (Ad P),my true]
 |none=>tp [ag (Ad CY),my false]
def Of (P v t):Z (Us P v t)=Z P:=by simp[Us]
def rL {P}{b a:List Tm}{k t u}(g:b[k]?=some t)(e:a[k]?=some u):Dy P (b.drop k) (a.drop k)=(Np P t u).bind λd=>Dy d (b.drop (k+1)) (a.drop (k+1)):=by
 obtain⟨c,i⟩:=BA.1 g;obtain⟨f,e2⟩:=BA.1 e;rw[ET c,ET f,i,e2];rfl
def yA (a b:Dx)(i1 i2)(hl:Z a.ts=Z b.ts)(hn:Z a.ts<=1000)(ha:∀t∈a.ts,zU t)(hb:∀t∈b.ts,zU t)(j):
  ni 210 [ag [ic a.p,sl i1 (Z a.ts) (Ad a.ts)],ag [ic b.p,sl i2 (Z b.ts) (Ad b.ts)]] j λr d=>r=PF (Dy BY a.ts b.ts)/\AD j d:=by
 have b1:=U9;have hz:=Oj;have bu:=Cx a.ts;have br:=Cx b.ts;have b3:=Gx;have a7:AC (Z a.ts=Z b.ts):=hl;clear hl;refine Z9 56 [.cell 4 260,.tmp 5] Tryz.func210 ?_;refine mr ?_
 refine Ae (λm s d=>∃(k:Nat) (Q:List Tm),m=52-k/\k<=52/\s 2=ptr j.B 0/\s 3=ptr (j.B+1) 0/\s 4=ptr (j.B+2) 0/\s 6=ptr (j.B+3) 0/\s 12=ic k/\AD j d/\j.B+3<d.B/\d.C j.B=[ic a.p,sl i1 (Z a.ts) (Ad a.ts)]/\d.C (j.B+1)=[ic b.p,sl i2 (Z b.ts) (Ad b.ts)]/\d.C (j.B+2)=Ad CY/\d.C (j.B+3)=Ad Q/\Z Q=52/\AC (Q=BY.take k++CY.drop k)) 52
  ⟨0,CY,AA,AA,AG,AG,AG,AG,AG,Xs,AM,?_,?_,?_,?_,by simp[CY],by simp[AC]⟩ ?_
 ·rw[Ah AM,Ah AM,Ah AM,Ao]
 ·rw[Ah AM,Ah AM,Be AM AM]
 ·rw[Ah AM,Be AM AM]
 ·rw[Be AM AM]
 rintro m s d ⟨k,Q,rfl,hk,h2,h3,h4,h6,bp,H,a3,bc,N,S,O,n,D⟩;have a8:=H.B;have bb:=G9 n;by_cases V:k<52
 ·have bd:AC (Q.set k (true,(k:Int))=BY.take (k+1)++CY.drop (k+1)):=by
   rw[AC,D.o,qB (by simp[CY];omega)];simp[BY,V]
  have bz:=Nz (l:=Q) (i:=k) AA true (k:Int);have be:∀x,Z (Q.set k x)=52:=λx=>by rw[LC,n]
  clear D;refine mr ?_;refine⟨52-(k+1),AA,k+1,Q.set k (true,(k:Int)),?_⟩
  ((repeat' refine Zi ?_ ?_)<;>first|exact Xq|exact bd|exact (be _)|exact Xs)
 have bg:k=52:=AA;subst bg;have HQ:Q=BY:=by rw[D.o];rfl
 subst HQ;clear D V hk n bb;refine mr ?_
 refine Ae (λm s d=>∃(k:Nat) (Q:List Tm),m=Z a.ts-k/\k<=Z a.ts/\s 3=ptr (j.B+1) 0/\s 4=ptr (j.B+2) 0/\s 6=ptr (j.B+3) 0/\s 21=sl i1 (Z a.ts) (Ad a.ts)/\s 22=ic (Z a.ts)/\s 23=ic k/\AD j d/\j.B+3<d.B/\d.C (j.B+1)=[ic b.p,sl i2 (Z b.ts) (Ad b.ts)]/\d.C (j.B+2)=Ad CY/\d.C (j.B+3)=Ad Q/\Z Q=52/\AC (Dy BY a.ts b.ts=Dy Q (a.ts.drop k) (b.ts.drop k))) (Z a.ts)
  ⟨0,BY,AA,AA,AI,AI,AI,AG,AG,AG,H,a3,N,S,O,Ni,by simp[AC]⟩ ?_
 clear h2 h3 h4 h6 bp H a3 bc N S O a8;rintro m s d ⟨k,Q,rfl,hk,h3,h4,h6,bo,bn,bm,H,a3,N,S,O,n,D⟩;have a8:=H.B;have bb:=G9 n;have bv:=H5 n;by_cases V:k<Z a.ts
 ·have ba:k<Z b.ts:=by have:=a7.o;omega
  have g1:=AK V;have g2:=AK ba;have az:=ha a.ts[k] (AR V);have ay:=hb b.ts[k] (AR ba);obtain⟨r1,bi⟩:=C3 g1;obtain⟨r2,bh⟩:=C3 g2;have f:AC (Dy BY a.ts b.ts=(Np Q a.ts[k] b.ts[k]).bind λP'=>Dy P' (a.ts.drop (k+1)) (b.ts.drop (k+1))):=by rw[AC,D.o,rL g1 g2]
  clear D g1 g2;generalize a.ts[k]=t at bi az f;generalize b.ts[k]=u at bh ay f;have av:=λj=>X0 Q n t az j;have X:=λj=>X0 Q n u ay j;unfold Np at f;generalize Hl Q t=x at av f;generalize Hl Q u=y at X f;obtain⟨g,c⟩:=x;obtain⟨y1,v⟩:=y;dsimp only at av X f;clear az ay;refine m0 ?_;intro yb ya;refine Xi (av _) ?_;rintro _ _ ⟨rfl,aw⟩;(have ax:=aw.B;have ah:=aw.C;simp only[Aa,Ac]at ax ah);refine mr ?_;rename_i o;have a6:AD j ((o.new [my false,ic 0]).put o.B [my g,ic c]):=((((H.new _).put H.B _).trans aw).new _).put AA _;have R:∀p,p<d.B->((o.new [my false,ic 0]).put o.B [my g,ic c]).C p=d.C p:=λp hp=>by rw[Aj AA,Ah AA,ah _ AA,Aj AA,Ah AA]
  have L:((o.new [my false,ic 0]).put o.B [my g,ic c]).C o.B=[my g,ic c]:=Ak;have nb:o.B<((o.new [my false,ic 0]).put o.B [my g,ic c]).B:=BJ;generalize (o.new [my false,ic 0]).put o.B [my g,ic c]=G at a6 R L nb;have T:G.C (j.B+1)=[ic b.p,sl i2 (Z b.ts) (Ad b.ts)]:=by rw[R _ AA,N]
  have W:G.C (j.B+2)=Ad CY:=by rw[R _ AA,S]
  have U:G.C (j.B+3)=Ad Q:=by rw[R _ AA,O]
  clear R ah aw H N S O av;refine A2 (Q:=λe C K=>e= .normal/\∃A:Nat,C 11=ptr A 0/\G.B<=A/\A<K.B/\K.C A=[my y1,ic v]/\C 3=ptr (j.B+1) 0/\C 4=ptr (j.B+2) 0/\C 6=ptr (j.B+3) 0/\C 10=ptr o.B 0/\C 21=sl i1 (Z a.ts) (Ad a.ts)/\C 22=ic (Z a.ts)/\C 23=ic k/\AD G K) ?_ ?_
  ·refine Ar Ag (λ_=>True) [8] [0,1,2,3,4,5] 3 (nv 9 63) AH (λ_ _ _ h=>by cases h.1) ?_;intro yb ya;refine Z3 ?_;refine ya.o _ ?_;clear ya yb;refine D8 (rs:=[6,7]) AH nk ?_;intro i hi;simp only[BD,EK,DZ]at hi;rcases hi with rfl|rfl
   ·refine Am ?_;intro yb ya;refine Z3 ?_;refine AF.mono (X _) ?_;rintro _ E ⟨rfl,q⟩;have ai:=q.B;refine Z3 ?_;refine ya.o _ _ ⟨Al q,?_⟩;clear ya yb;refine Ai (i:=7) AH ?_;refine Am ?_;intro yb ya;refine Z3 ?_;refine ya.o _ _ ⟨Al (q.new _),?_⟩;clear ya yb;refine Ai (i:=8) AH ?_;refine Am ?_;intro yb ya;refine Z3 ?_;refine ya.o _ _ ⟨A3 rfl,?_⟩;clear ya yb;exact Aw AH ⟨rfl,E.B,AG,AA,BJ,Ak,AI,AI,AI,AI,AI,AI,AI,(q.new _).put AA _⟩
   refine Am ?_;intro yb ya;refine Z3 ?_;refine ya.o _ _ ⟨Al ((AD.refl _).new _),?_⟩;clear ya yb;refine Ai (i:=6) AH ?_;refine Am ?_;intro yb ya;refine Z3 ?_;refine AF.mono (X _) ?_;rintro _ E ⟨rfl,q⟩;have ai:=q.B;have I:=q.C;simp only[Aa]at ai I;have o3z:E.C G.B=[my false,ic 0]:=by rw[I _ AA,Ao]
   have a5:AD G E:=((AD.refl _).new _).trans q;refine Z3 ?_;refine ya.o _ _ ⟨Al a5,?_⟩;clear ya yb;refine Ai (i:=8) AH ?_;refine Am ?_;intro yb ya;refine Z3 ?_;refine ya.o _ _ ⟨A3 rfl,?_⟩;clear ya yb;exact Aw AH ⟨rfl,G.B,AG,AA,by simp only[Ac];omega,Ak,AI,AI,AI,AI,AI,AI,AI,a5.put AA _⟩
  rintro e C E ⟨rfl,A,g11,b0,b2,oy,g3,g4,g6,g10,g21,g22,g23,q⟩;have ai:=q.B;have I:=q.C;have od1:E.C (j.B+1)=[ic b.p,sl i2 (Z b.ts) (Ad b.ts)]:=by rw[I _ AA,T]
  have od2:E.C (j.B+2)=Ad CY:=by rw[I _ AA,W]
  have od3:E.C (j.B+3)=Ad Q:=by rw[I _ AA,U]
  have ox:E.C o.B=[my g,ic c]:=by rw[I _ AA,L]
  have a5:=a6.trans q;clear I q a6 T W U L h3 h4 h6 bo bn bm X;by_cases z:((g,c):Tm)=(y1,v)
  ·have hc:(g==y1&&c==v)=true:=by simp at z;simp[z]
   have B:AC (Dy BY a.ts b.ts=Dy Q (a.ts.drop (k+1)) (b.ts.drop (k+1))):=by rw[AC,f.o,if_pos z];rfl
   clear f z;refine mr ?_;refine⟨Z a.ts-(k+1),AA,k+1,Q,?_⟩;exact m9 B
  rw[if_neg z]at f;cases y1 with
  |true=>
   have M:=λj=>lT Q n (true,v) (g,c) j;have F:Z (Us Q (true,v) (g,c))=52:=by rw[Of,n]
   have B:AC (Dy BY a.ts b.ts=Dy (Us Q (true,v) (g,c)) (a.ts.drop (k+1)) (b.ts.drop (k+1))):=by rw[AC,f.o,if_pos rfl];rfl
   generalize Us Q (true,v) (g,c)=Y at M F B;have a4:=G9 F;have a0:=H5 F;have a9:=P7 n F;clear f;cases g with
   |true=>
    have hc:(c==v)=false:=nn z;clear z;refine m0 ?_;intro yb ya;refine Xi (M _) ?_;rintro _ _ ⟨rfl,J⟩;(have ao:=J.B;have an:=J.C);refine mr ?_;refine⟨Z a.ts-(k+1),AA,k+1,Y,?_⟩;exact m9 B
   |false=>
    clear z;refine m0 ?_;intro yb ya;refine Xi (M _) ?_;rintro _ _ ⟨rfl,J⟩;(have ao:=J.B;have an:=J.C);refine mr ?_;refine⟨Z a.ts-(k+1),AA,k+1,Y,?_⟩;exact m9 B
  |false=>
   rw[if_neg nk]at f;cases g with
   |true=>
    have M:=λj=>lT Q n (true,c) (false,v) j;have F:Z (Us Q (true,c) (false,v))=52:=by rw[Of,n]
    have B:AC (Dy BY a.ts b.ts=Dy (Us Q (true,c) (false,v)) (a.ts.drop (k+1)) (b.ts.drop (k+1))):=by rw[AC,f.o,if_pos rfl];rfl
    generalize Us Q (true,c) (false,v)=Y at M F B;have a4:=G9 F;have a0:=H5 F;have a9:=P7 n F;clear f z;refine m0 ?_;intro yb ya;refine Xi (M _) ?_;rintro _ _ ⟨rfl,J⟩;(have ao:=J.B;have an:=J.C);refine mr ?_;refine⟨Z a.ts-(k+1),AA,k+1,Y,?_⟩;exact m9 B
   |false=>
    have B:AC (Dy BY a.ts b.ts=none):=by rw[AC,f.o,if_neg nk];rfl
    have bq:=H5 (P:=CY) (by simp[CY]);have bw:=P7 (P:=CY) (Q:=CY) (by simp[CY]) (by simp[CY]);have hc:(c==v)=false:=nn z;clear f z;refine mr ?_;exact⟨_,rfl,by rw[B.o];rfl,Xs⟩
 have bf:k=Z a.ts:=AA;have f:AC (Dy BY a.ts b.ts=some Q):=by
  rw[AC,D.o,bf,IZ];rfl
 have a9:=P7 (P:=CY) (by simp[CY]) n;clear D;refine mr ?_;exact⟨_,rfl,by rw[f.o];rfl,Xs⟩
def PN (c:oh):Prop:=∃(b:Bool) (p:Int) (d n:Nat) (a:oh),c=[my b,ic p,sl d n a]/\∀x∈a,∃v,x=sc v
def Tl {α:Type}(E:α->oh->Prop)(a:α)(d:oh):Prop:=∃x,E a (x::d)
def pC {α:Type}{E}(d:∀a c,E a c->PN c):∀{l:List α} {cs:oh},EL (Tl E) l cs->∀c∈cs,Plain c
 |[],cs,h,c,b=>by have h:cs=[]:=h;subst h;cases b
 |a::l,_,⟨c1,c2,⟨x,hx⟩,h2,rfl⟩,c,b=>by
  rcases AW.1 b with b|b;obtain⟨_,p,g,n,i,e,f⟩:=d _ _ hx;simp at e;rw[e.2]at b;simp only[BD,EK,DZ]at b;rcases b with rfl|rfl;exact .inl ⟨_,rfl⟩;exact .inr ⟨_,_,_,rfl,f⟩;exact pC d h2 c b
def qZ {α:Type}{E:α->oh->Prop}(D:∀a c,E a c->PN c)(p ih n tc)(N:∀x∈tc,∃v,x=sc v)(l id b)(M:EL E l b)(hn:Z l<=1000)(j):
  ni 133 [ag [my false,ic p,sl ih n tc,sl id (Z l) b]] j λr f=>∃(o m:Nat) (cs:oh),r=fx o 0 m/\j.B<=o/\f.C o=cs/\AD j f/\(∀c∈cs,Plain c)/\(m=Z l+1/\∃e,cs=ic p::sl ih n tc::e/\EL (Tl E) l e):=by
 have K:∀a c,E a c->Z c=3:=λa c h=>by obtain⟨_,_,_,_,_,rfl,-⟩:=D a c h;rfl
 have ap:=EL.length K M;refine Z9 33 [.tmp 2] Tryz.func133 ?_;refine mr ?_;have I:AD j (j.new [my false,ic p,sl ih n tc,sl id (Z l) b]):=(AD.refl _).new _;have H:((Z l:Int)+1).toNat=Z l+1:=AA
 refine Ae (λm s f=>∃(k:Nat) (d:oh),m=Z l-k/\k<=Z l/\s 3=fx (j.B+1) 0 (Z l+1)/\s 18=sl id (Z l) b/\s 19=ic (Z l)/\s 20=ic k/\AD j f/\j.B+1<f.B/\f.C (j.B+1)=d/\Z d=(Z l+1)*2/\AC (∃e,d=(ic p::sl ih n tc::e)++(List.replicate (Z l-k) [ic 0,nilS]).flatten/\Z e=k*2/\EL (Tl E) (l.take k) e)) (Z l)
  ⟨0,_,AA,AA,by simp[upd,H],AG,AG,rfl,(I.new _).put AA _,BJ,Ak,by simp[H],[],?_,rfl,rfl⟩ ?_
 ·rw[H,U8 AA];rfl
 clear I;rintro m s f ⟨k,d,rfl,V,X,ax,aw,av,G,ao,P,T,z⟩;have U:=G.B;by_cases O:k<Z l
 ·have y:=AK O;obtain⟨c,r,u,L⟩:=EL.get K M y;generalize l[k]=a at L y u;obtain⟨Y,C,F,B,A,rfl,R⟩:=D _ _ u;simp only[EW,FE]at L;have S:AC (∃e,(d.set ((k+1)*2) (ic C)).set ((k+1)*2+1) (sl F B A)=(ic p::sl ih n tc::e)++(List.replicate (Z l-(k+1)) [ic 0,nilS]).flatten/\Z e=(k+1)*2/\EL (Tl E) (l.take (k+1)) e):=by
   obtain⟨e,g,e2,i⟩:=z.o;refine⟨e++[ic C,sl F B A],?_,by simp[e2];omega,?_⟩
   ·rw[g,U8 AA,uW (by simp[e2];omega)];simp[Nat.sub_sub]
   rw[AT,y];exact EL.append i (EL.single ⟨_,u⟩)
  clear y u z R;have W:((k:Int)+1).toNat=k+1:=AA;refine mr ?_;refine⟨Z l-(k+1),AA,k+1,(d.set ((k+1)*2) (ic C)).set ((k+1)*2+1) (sl F B A),?_⟩
  ((repeat' refine Zi ?_ ?_)<;>first|exact Xq|exact (((G.new _).put G.B _).put AA _)|exact Ak|exact S|exact (by simp[T])|exact Xs)
 have Q:k=Z l:=AA;subst Q;obtain⟨e,g,e2,i⟩:=z.o;rw[GX,List.replicate_zero,List.flatten_nil,EJ]at g;rw[AS]at i;have t:∀c∈d,Plain c:=λc q=>by
  rw[g]at q;simp only[BD]at q;rcases q with rfl|rfl|q
  ·exact .inl ⟨_,rfl⟩
  ·exact .inr ⟨_,_,_,rfl,N⟩
  exact pC D i c q
 have J:AC ((∀c∈d,Plain c)/\∃e,d=ic p::sl ih n tc::e/\EL (Tl E) l e):=⟨t,e,g,i⟩;clear z g e2 i t;refine mr ?_;exact⟨_,rfl,j.B+1,_,d,rfl,AA,P,J.o.1,rfl,J.o.2⟩
def eU (ts):∀x∈Ad ts,∃v,x=sc v:=λx b=>by
 obtain⟨t,-,a⟩:=EX.1 b;simp[Js]at a;rcases a with rfl|rfl<;>exact⟨_,rfl⟩
def ZZ (l c)(h:Sq l c):PN c:=by
 obtain⟨id,rfl⟩:=h;exact⟨_,_,_,_,_,rfl,eU _⟩
def Hs (r:E3):List Dx:=r.h::r.A.map (·.a)
def Fc (r:E3):List Int:=Cs (Hs r)
def RQ:∀{l:List Lit} {b:oh},EL (Tl Sq) l b->EL O9 (l.map (·.a)) b
 |[],_,h=>h
 |a::l,_,⟨c1,c2,⟨x,ia,e⟩,h2,rfl⟩=>⟨c1,c2,⟨ia,nn ((List.cons.inj e).2)⟩,RQ h2,rfl⟩
def lP (r c)(b:T1 false r c)(g:Z r.A<=1000)(j):ni 133 [ag c] j λx a=>∃id cs,x=sl id (Z (Hs r)) cs/\EL O9 (Hs r) cs/\AD j a:=by
 obtain⟨e,l,m,rfl,d⟩:=b;refine (AF.freeze (qZ ZZ _ _ _ _ (eU _) _ _ _ d g j)).mono λx a h=>?_;obtain⟨n,cs,rfl,⟨rfl,k,rfl,i⟩,f⟩:=h;exact⟨0,_,by simp[Hs],⟨_,_,⟨e,rfl⟩,RQ i,rfl⟩,f⟩
def Mk (r c)(g:T1 false r c)(d:LP r)(j):ni 96 [ag c] j λx n=>(∃id,x=sl id (Z (Fc r)) (As (Fc r)))/\AD j n:=by
 have y:=d.bl;have p:=λj=>lP r c g AA j
 have i:=λk b m j=>Hy (Hs r) k b m (λa f=>by
  rcases BD.1 f with rfl|f
  ·exact d.h3
  obtain⟨l,o,rfl⟩:=AN.1 f
  exact d.b3 l o) (by simp[Hs];omega) j
 obtain⟨s,z,v,rfl,-⟩:=g;unfold Fc;generalize Cs (Hs r)=u at i;refine Z9 6 [.tmp 2] Tryz.func96 ?_
 repeat' first|refine Z1 ?_|refine Z8 λyb ya=>?_|refine Z4 ?_;clear ya yb|refine Z2 ?_ ?_<;>intro h A<;>try exact Xp|(refine Z5 ?_;first|(refine Xi (p _) ?_;rintro _ _ ⟨b,k,rfl,m,t⟩)|(refine Xi (i _ _ nu _) ?_;rintro _ _ ⟨⟨e,rfl⟩,q⟩))|refine Z3 ?_|exact Zt|apply ya.o;clear ya yb
 exact⟨_,rfl,⟨e,rfl⟩,Xs⟩
def lZ (l:List Int)(v:Int):Int:=if v∈l then (l.idxOf v:Nat)else -1
def G8 (l:List Int)(t:Tm):Tm:=(t.1,if t.1=true then lZ l t.2 else t.2)
def Oy (l ido kp ids ts)(K:Z l<=100000)(hn:Z ts<=1000)(j):
  ni 144 [ag [ic kp,sl ids (Z ts) (Ad ts)],sl ido (Z l) (As l)] j λr a=>(∃id,r=ag [ic kp,sl id (Z ts) (Ad (ts.map (G8 l)))])/\AD j a:=by
 have T:=Cx ts;refine Z9 33 [.cell 4 122] Tryz.func144 ?_;refine mr ?_
 refine Ae (λm s a=>∃(k g:Nat) (b:oh),m=Z ts-k/\k<=Z ts/\s 1=sl ido (Z l) (As l)/\s 4=ptr (j.B+1) 0/\s 5=ptr (j.B+2) 0/\s 12=sl ids (Z ts) (Ad ts)/\s 13=ic (Z ts)/\s 14=ic k/\AD j a/\j.B+2<a.B/\a.C (j.B+1)=[ic 0,nilS]/\a.C (j.B+2)=[ic kp,sl g k b]/\Own j a g k/\Z b=k*2/\AC (b=Ad ((ts.take k).map (G8 l)))) (Z ts)
  ⟨0,1,[],AA,AA,by simp[upd,AL],AG,AG,AG,AG,rfl,?_,?_,?_,?_,Own.nil _ _,nk,by simp[AC,Ad]⟩ ?_
 ·exact ((((AD.refl j).new _).new _).new _).put AA _
 ·simp only[Ac,Aa];omega
 ·rw[Aj AA,Ah AM,Be (by rw[Aa];omega) (by rw[Aa];omega)]
 ·rw[show j.B+2=j.B+1+1 by omega,Ak]
 rintro m s a ⟨k,g,b,rfl,U,V,h4,P,Y,a7,X,e,S,ax,Q,z,B,p⟩;have W:=e.B;by_cases H:k<Z ts
 ·have i:=AK H;obtain⟨R,L⟩:=C3 i;generalize ts[k]=w at L i;obtain⟨C,c⟩:=w;have n:AC (Ad ((ts.take (k+1)).map (G8 l))=b++Js (G8 l (C,c))):=by
   rw[AC,AT,i,BN,EU,List.map_singleton,Uj,<-p.o]
  clear i p;cases C with
  |true=>
   have u:=λj=>H7 c l ido K j;have o:AC (b++[my true,ic (lZ l c)]=Ad ((ts.take (k+1)).map (G8 l))):=by rw[AC,n.o];rfl
   have D:∀v,(if v∈l then ((l.idxOf v:Nat):Int)else -1)=lZ l v:=λ_=>rfl;rw[D]at u;generalize lZ l c=A at u o;clear D n;refine m0 ?_;intro yb ya;refine Xi (u _) ?_;rintro _ _ ⟨rfl,f⟩;(have N:=f.B;have F:=f.C;simp only[Aa,Ac]at N F);refine nh ?_;intro yb ya;rename_i G;have y:AD j (G.put a.B [my true,ic A]):=(((e.new _).put e.B _).trans f).put AA _;refine Bo (by first|exact Gl) y (Own.put (Own.keep (Own.put (Own.new z _) _ _) f) _ _) nr (by rfl) B (by rfl) (by rfl) nr AA AA ?_;intro d I q t O x M J;simp only[Ac,Aa]at x;refine Z3 ?_;refine mr ?_;refine⟨Z ts-(k+1),AA,k+1,d,b++[my true,ic A],?_⟩
   ((repeat' refine Zi ?_ ?_)<;>first|exact Xq|exact (t.put AA _)|exact (Own.put q _ _)|exact o|exact Xs)
  |false=>
   have o:AC (b++[my false,ic c]=Ad ((ts.take (k+1)).map (G8 l))):=by rw[AC,n.o];rfl
   clear n;refine nh ?_;intro yb ya;have y:AD j ((a.new [my false,ic 0]).put a.B [my false,ic c]):=(e.new _).put e.B _;refine Bo (by first|exact Gl) y (Own.put (Own.new z _) _ _) nr (by rfl) B (by rfl) (by rfl) nr AA AA ?_;intro d I q t O x M J;simp only[Ac,Aa]at x;refine Z3 ?_;refine mr ?_;refine⟨Z ts-(k+1),AA,k+1,d,b++[my false,ic c],?_⟩
   ((repeat' refine Zi ?_ ?_)<;>first|exact Xq|exact (t.put AA _)|exact (Own.put q _ _)|exact o|exact Xs)
 have E:k=Z ts:=AA;subst E;rw[AS]at p;refine mr ?_;exact⟨_,rfl,⟨g,by rw[p.o]⟩,e.put AA _⟩
end Go.Proofs.YtmoeoppbmhfbpabGreatDoorJ
