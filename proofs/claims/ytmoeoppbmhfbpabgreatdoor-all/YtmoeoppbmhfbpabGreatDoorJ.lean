import Derived.Test.YtmoeoppbmhfbpabGreatDoorI
set_option maxHeartbeats 64000000
set_option maxRecDepth 100000
set_option linter.all false
open List
open List renaming length->Z
namespace Go.Proofs.YtmoeoppbmhfbpabGreatDoorJ
open Go.Abs Tryz
def sJ {l i}(a:i<Z l)(b v):lsp (Ad l) (i*2) [my b,Y v]=Ad (l.set i (b,v)):=by
 have d:=Cx l;rw[Hw _ _ _ (gp)];have e:l=l.take i++l[i]::l.drop (i+1):=jx
 have e2:l.set i (b,v)=l.take i++(b,v)::l.drop (i+1):=gp
 have g:Z (Ad (l.take i))=i*2:=by
  rw[Cx,CN,ER (Nat.le_of_lt a)]
 have c:Ad l=Ad (l.take i)++(Js l[i]++Ad (l.drop (i+1))):=by
  unfold Ad
  conv=>lhs;rw[e]
  rw[KC,DN]
 have f:Ad (l.set i (b,v))=Ad (l.take i)++(Js (b,v)++Ad (l.drop (i+1))):=by rw[e2];simp[Ad]
 rw[f,c,<-g,take_left,CR];congr 1;congr 1;rw[show Z (Ad (l.take i))+Z [my b,Y v]=Z (Ad (l.take i))+Z (Js l[i]) by rfl,drop_length_add_append,drop_left]
def Nz {l i}(a:i<Z l)(b v):((Ad l).set (i*2) (my b)).set (i*2+1) (Y v)=Ad (l.set i (b,v)):=sJ a b v
def Gx (l):(Ad l).all flat:=by rw[CX];intro x b;obtain⟨t,-,a⟩:=EX.1 b;simp[Js]at a;rcases a with rfl|rfl<;>rfl
def CY:List Tm:=replicate 52 (false,0)
def Oj:PT.map cst1=Ad CY:=rfl
theorem G9 {P}(h:Z P=52):Z (Ad P)=104:=by rw[Cx,h]
def H5 {P}(h:Z P=52):take 104 (Ad P)=Ad P:=FZ (G9 h▸AU _)
def ZB {l xs}(h:Z xs=Z l):lsp l 0 xs=xs:=by simp_all[Hw,DY,IZ]
def P7 {P Q}(a:Z P=52)(b:Z Q=52):lsp (Ad P) 0 (Ad Q)=Ad Q:=ZB (by grind[G9])
def U9:Z (Ad CY)=104:=G9 (by simp[CY])
def Hl (P:List Tm)(t:Tm):Tm:=if t.1=true then (P[t.2.toNat]?).getD t else t
def Us (P:List Tm)(v t:Tm):List Tm:=P.map λx=>if x=v then t else x
def qB {α:Type}{A P:List α}{k x}(b:k<Z P)(a:A[k]?=some x):(A.take k++P.drop k).set k x=A.take (k+1)++P.drop (k+1):=by have c:=(BA.1 a).1;rw[set_append,if_neg (gp),CN,ER L,GX,ET b,set_cons_zero,AT,a];simp
def zU (t:Tm):Prop:=t.1->∃k:Nat,k<52/\t.2=(k:Int)
def X0 (P)(g:Z P=52)(t)(i:zU t)(j):ni 245 [ag (Ad P),ag [my t.1,Y t.2]] j λl f=>l=ag [my ((Hl P t).1),Y (Hl P t).2]/\W j f:=by
 obtain⟨b,v⟩:=t;cases b
 ·apply Z9 12 [.cell 4 151] func245;refine X ?_;exact⟨_,rfl,rfl,Xs⟩
 obtain⟨k,m,e⟩:=i rfl;dsimp only at e;subst e;have a:=AK (show k<Z P by omega);obtain⟨l,d⟩:=C3 a;have c:V (Hl P (true,(k:Int))=P[k]):=by
  rw[V,Hl,if_pos rfl];simp only[DK];rw[a];rfl
 generalize P[k]=w at d c;apply Z9 12 [.cell 4 151] func245;refine X ?_;exact⟨_,rfl,by rw[c.o],Xs⟩
def lT (P)(C:Z P=52)(v t j):ni 246 [ag (Ad P),ag [my v.1,Y v.2],ag [my t.1,Y t.2]] j λm d=>m=ag (Ad (Us P v t))/\W j d:=by
 have a6:=U9;have a0:=Gx;have hz:=Oj;let⟨c,a⟩:=v;let⟨f,g⟩:=t;refine wl func246 ?_;refine X ?_
 refine wn [3,4,5,6] 8 52 (λk a2 d=>∃Q:List Tm,W j d/\j.B+3<d.B/\d.C j.B=Ad Q/\d.C (j.B+1)=[my c,Y a]/\d.C (j.B+2)=[my f,Y g]/\d.C (j.B+3)=Ad CY/\Z Q=52/\V (Q=(Us P (c,a) (f,g)).take k++P.drop k)) ⟨P,Xs,AM,?_,?_,?_,?_,C,by simp[V]⟩ ?_
 ·rw[Ah AM,Ah AM,Ah AM,Ao]
 ·rw[Ah AM,Ah AM,Be AM AM]
 ·rw[Ah AM,Be AM AM]
 ·rw[Be AM AM]
 rintro k a2 d _ ⟨s,N,T,U⟩ S ⟨Q,K,aw,an,a5,ak,a7,B,u⟩;have ao:=K.B;have ay:=G9 B;have ap:=H5 B;have av:=P7 (P:=CY) (by simp[CY]) B;by_cases ax:k<52
 ·have G:k<Z P:=L;have D:P[k]?=some P[k]:=AK G;have a4:Z (Us P (c,a) (f,g))=52:=by simp[Us,C]
  have E:Q[k]?=some P[k]:=by
   rw[u.o,JY (by rw[CN];omega),CN,ER L,GX,IJ,GZ,D]
  have z:V (Q.set k (if P[k]=(c,a)then (f,g)else P[k])=(Us P (c,a) (f,g)).take (k+1)++P.drop (k+1)):=by
   have I:(Us P (c,a) (f,g))[k]?=some (if P[k]=(c,a)then (f,g)else P[k]):=by rw[Us,DC,D];rfl
   rw[V,u.o,qB G I]
  let⟨m,M⟩:=C3 E;have au:=λa1 v=>Nz (l:=Q) (i:=k) L a1 v;have b:V (Q.set k P[k]=Q):=by
   have:=(BA.1 E).2;rw[V,<-this,set_getElem_self]
  generalize P[k]=w at M z b;let⟨A,q⟩:=w;have a3:∀x,Z (Q.set k x)=52:=λx=>by rw[LC,B]
  clear D E u;refine X ?_;refine A2 (Q:=λe o y=>e= .normal/\o 15=my (A==c&&q==a)/\o 3=ptr j.B 0/\o 4=ptr (j.B+1) 0/\o 5=ptr (j.B+2) 0/\o 6=ptr (j.B+3) 0/\o 7=Y k/\o 8=Y k/\y=d) ?_ ?_
  ·refine bT [] [0,1,2,3,4] 0 (nv 5 31) ?_;exact Aw AH ⟨rfl,AI,AI,AI,AI,AI,AI,AI,rfl⟩
  clear s N T U S;rintro e o y ⟨rfl,n,g3,g4,g5,g6,g7,g8,rfl⟩;by_cases p:(A,q)=(c,a)
  ·rw[if_pos p]at z;have F:(A==c&&q==a):=by simp at p;simp[p]
   rw[F]at n;clear p;refine Cj n ?_;refine X ?_;exact⟨Q.set k (f,g),oj⟩
  rw[if_neg p,b.o]at z;have F:(A==c&&q==a)=false:=by
   cases h:(A==c&&q==a)
   ·rfl
   simp at h;exact absurd (by rw[h.1,h.2]) p
  rw[F]at n;clear p;refine De n ?_;refine X ?_;refine⟨Q,?_⟩;exact m9 z
 obtain rfl:k=52:=L;have R:V (Us P (c,a) (f,g)=Q):=by
  rw[V,u.o,FZ (by simp[Us,C]),JU L,EJ]
 clear u;refine X ?_;exact⟨_,rfl,by rw[R.o],Xs⟩
def P9 (P:List Tm)(a:Dx):Dx:=⟨a.p,a.ts.map (Hl P)⟩
def dU (P)(y:Z P=52)(a:Dx)(a5)(ha:∀t∈a.ts,zU t)(hn:Z a.ts<=1000)(j):ni 247 [ag (Ad P),ag [Y a.p,X1 a5 a.ts]] j λac b=>(∃id,ac=ag [Y a.p,sl id (Z a.ts) (Ad (a.ts.map (Hl P)))])/\W j b:=by
 have hl:=G9 y;have bc:=H5 y;have bd:=Gx P;have bb:=Cx a.ts;refine wl func247 ?_;refine X ?_
 refine wn [2,4,5,12,13] 14 (Z a.ts) (λk ae b=>∃(q:Nat) (f:oh),W j b/\j.B+3<b.B/\b.C j.B=Ad P/\b.C (j.B+2)=[Y 0,H]/\b.C (j.B+3)=[Y a.p,sl q k f]/\J j b q k/\Z f=k*2/\V (f=Ad ((a.ts.take k).map (Hl P)))) ⟨1,[],?_,?_,?_,?_,?_,J.nil _ _,nk,by simp[V,Ad]⟩ ?_
 ·exact (((((W.refl j).new _).new _).new _).new _).put L _
 ·simp only[Ac,Aa];omega
 ·rw[Aj L,Ah AM,Ah AM,Ah AM,Ao]
 ·rw[Aj L,Ah AM,Be AM AM]
 ·rw[show j.B+3=j.B+1+1+1 by omega,Ak]
 rintro k ae b _ ⟨N,U,a0,I,K⟩ s ⟨q,f,n,A,F,D,C,z,e,u⟩;have ba:=n.B;by_cases a6:k<Z a.ts
 ·obtain⟨w,v⟩:=gq a6;have G:=ha w (AY v);obtain⟨r2,a7⟩:=C3 v;have a1:V (f++Js (Hl P w)=Ad ((a.ts.take (k+1)).map (Hl P))):=by
   rw[V,AT,v,BN,EU,map_singleton,Uj,<-u.o]
  have x:=λj=>X0 P y w G j;have aw:V _:=e;clear v G u;generalize Hl P w=w' at a1 x;let⟨w1,m⟩:=w';dsimp only at x;refine X ?_;have R:W j ((b.new [my false,Y 0]).put b.B [my w.1,Y w.2]):=(n.new _).put n.B _;have S:∀p,p<b.B->((b.new [my false,Y 0]).put b.B [my w.1,Y w.2]).C p=b.C p:=λp a3=>by rw[Aj L,Ah L]
  refine A2 (Q:=λa4 l c=>a4= .normal/\l 2=ptr j.B 0/\l 4=ptr (j.B+2) 0/\l 5=ptr (j.B+3) 0/\l 12=X1 a5 a.ts/\l 13=Y (Z a.ts)/\l 14=Y k/\W j c/\j.B+3<c.B/\c.C j.B=Ad P/\c.C (j.B+2)=[Y 0,H]/\∃d,c.C (j.B+3)=[Y a.p,sl d (k+1) (f++[my w1,Y m])]/\J j c d (k+1)) ?_ ?_
  ·refine bT [8] [0,1,2,3] 5 (nv 9 15) ?_;refine tn 4 x ?_;rintro yb ya _ j5 ⟨rfl,g⟩;refine ux ?_;have av:=g.B;have M:=g.C;simp only[Ac,Aa]at av M;have a9:=R.trans g;have a8:=J.keep (J.put (J.new z [my false,Y 0]) b.B [my w.1,Y w.2]) g;refine rl 5 ?_;refine Ai (i:=6) AH ?_;refine Am ?_;intro yb ya;refine Z3 ?_;refine hZ a9 ?_;intro d a2 ak am ad ab T aa;refine Z3 ?_;refine ya.o _ _ ⟨λ_ o B _=>by rw[T];exact g.ver o B,?_⟩;clear ya yb;refine Ai (i:=7) AH ?_;refine Am ?_;intro yb ya;refine Z3 ?_;refine ya.o _ _ ⟨λ_ o B _=>by rw[T];exact g.ver o B,?_⟩;clear ya yb;have E:∀p,p<b.B->a2.C p=b.C p:=λp a3=>by rw[ad,M _ L,S _ a3]
   have af:a2.C (j.B+3)=[Y a.p,sl q k f]:=by rw[E _ A,C]
   refine rl 8 ?_;refine Aw AH ⟨rfl,?_⟩;simp only[upd,↓reduceIte,Nat.reduceEqDiff,N,U,a0,I,K,s,GM];refine⟨am.put L _,by simp only[Ac];omega,?_,?_,d,?_,J.put ak _ _⟩
   ·rw[Aj L,E _ L,F]
   ·rw[Aj L,E _ L,D]
   rw[Ak]
  clear S R z e F D C A x N U a0 I K s;rintro a4 l c ⟨rfl,g2,g4,g5,ah,ai,aj,n,A,F,D,d,C,z⟩;refine X ?_;refine⟨d,f++[my w1,Y m],?_⟩
  ((repeat' refine Zi ?_ ?_)<;>first|exact Xq|exact a1|exact (by rw[AX,aw.o];simp;omega)|exact Xs)
 obtain rfl:k=Z a.ts:=L;rw[AS]at u;refine X ?_;exact⟨_,rfl,⟨q,by rw[u.o]⟩,n.put L _⟩
def qX (P:List Tm)(l:Lit):Lit:=⟨l.neg,P9 P l.a⟩
def Fj (P:List Tm)(a:E3):E3:=⟨P9 P a.h,a.A.map (qX P)⟩
def T1 (o:Bool)(e:E3)(c:oh):Prop:=∃b d a,c=[my o,Y e.h.p,X1 b e.h.ts,sl d (Z e.A) a]/\r Sq e.A a
structure LP (rqx:E3):Prop where
 h3:Z rqx.h.ts<=3
 b3:∀l∈rqx.A,Z l.a.ts<=3
 bl:Z rqx.A<=100
 hv:∀t∈rqx.h.ts,zU t
 bv:∀l∈rqx.A,∀t∈l.a.ts,zU t
def dT (P)(n:Z P=52)(m)(i:LP m)(o c)(hc:T1 o m c)(j):ni 212 [ag (Ad P),ag c] j λx b=>(∃E,x=ag E/\T1 false (Fj P m) E)/\W j b:=by
 obtain⟨T,a9,bc,rfl,R⟩:=hc;have hl:=G9 n;have a7:=H5 n;have ba:=r.length Hk R;have bb:=i.bl;have s:=λj=>dU P n m.h T i.hv (ny i.h3) j;have F:=λ(l:Lit) (h:l∈m.A) (A:Nat) j=>dU P n l.a A (i.bv l h) (ny (i.b3 l h)) j;refine wl func212 ?_;refine mt s ?_;rintro yb ya _ f ⟨⟨g,rfl⟩,z⟩;have a0:=z.B;have q:=z.C;simp only[Aa]at a0 q;refine X ?_;have ac:W j f:=Xs;have D:f.C j.B=Ad P:=by rw[q _ L,Ah AM,Ah AM,Ao]
 have C:f.C (j.B+2)=[my false,Y 0,H,H]:=by rw[q _ L,Be AM AM]
 clear s q
 refine wn [2,4,5,14,15] 16 (Z m.A) (λk a1 b=>∃(y:Nat) (d:oh),W j b/\f.B<b.B/\b.C j.B=Ad P/\b.C (j.B+2)=[my false,Y 0,H,H]/\b.C f.B=[my false,Y m.h.p,sl g (Z m.h.ts) (Ad (m.h.ts.map (Hl P))),sl y k d]/\J j b y k/\Z d=k*3/\V (r Sq ((m.A.take k).map (qX P)) d)) ⟨1,[],Xs,BJ,by rw[Aj L,Ah L,D],by rw[Aj L,Ah L,C],by rw[Ak],J.nil _ _,nk,by simp[V,r]⟩ ?_
 rintro k a1 b _ _ _ ⟨y,d,p,a8,a5,a4,a3,Q,aw,u⟩;have a6:=p.B;by_cases I:k<Z m.A
 ·obtain⟨a,v⟩:=gq I;obtain⟨G,rr,ad⟩:=H8 R v;have K:=λj=>F a (AY v) G j;have S:V (∀e,r Sq ((m.A.take (k+1)).map (qX P)) (d++[my a.neg,Y a.a.p,sl e (Z a.a.ts) (Ad (a.a.ts.map (Hl P)))])):=λe=>by
   rw[AT,v,BN,EU];exact r.append u.o (r.single ⟨e,by simp[qX,P9]⟩)
  clear v u F;refine mt K ?_;rintro yb ya _ _ ⟨⟨e,rfl⟩,t⟩;have M:=t.C;have an:=t.B;simp only[Aa,Ac]at an M;refine nh ?_;intro yb ya;rename_i j4;have N:=((p.new [my false,Y 0,H]).put p.B _).trans t;have aa:=J.keep (J.put (J.new Q [my false,Y 0,H]) b.B [my a.neg,Y a.a.p,X1 G a.a.ts]) t;refine hZ (N.put L _) ?_;intro B jn ah a2 af U ae ab;simp only[Ac,Aa]at U;refine X ?_;exact⟨B,d++[my a.neg,Y a.a.p,sl e (Z a.a.ts) (Ad (a.a.ts.map (Hl P)))],qj (S.o e)⟩
 obtain rfl:k=Z m.A:=L;rw[AS]at u;refine X ?_;exact⟨_,rfl,⟨_,rfl,g,y,d,by simp[Fj,P9],u.o⟩,p.put L _⟩
def BU:List Tm:=(range 52).map λ(i:Nat)=>if i<26 then (true,(26:Int)+i)else (false,0)
def oV:Z BU=52:=by simp[BU]
def apart_spec (m)(p:LP m)(o c)(f:T1 o m c)(j):ni 209 [ag c] j λx a=>(∃d,x=ag d/\T1 false (Fj BU m) d)/\W j a:=by
 have B:=λj=>dT BU oV m p o c f j;obtain⟨q,C,G,rfl,T⟩:=f;have N:=Oj;refine wl func209 ?_;refine X ?_
 refine wn [1,2,3] 4 26 (λk s a=>∃Q:List Tm,W j a/\j.B+2<a.B/\a.C j.B=[my o,Y m.h.p,X1 q m.h.ts,sl C (Z m.A) G]/\a.C (j.B+1)=[my false,Y 0,H,H]/\a.C (j.B+2)=Ad Q/\Z Q=52/\V (Q=BU.take k++CY.drop k)) ⟨CY,Xs,AM,?_,?_,?_,by simp[CY],by simp[V]⟩ ?_
 ·rw[Ah AM,Ah AM,Ao]
 ·rw[Ah AM,Be AM AM]
 ·rw[Be AM AM]
 rintro k s a _ _ _ ⟨Q,E,K,M,z,U,e,b⟩;have I:=G9 e;by_cases u:k<26
 ·have a0:V (Q.set k (true,(26:Int)+k)=BU.take (k+1)++CY.drop (k+1)):=by rw[V,b.o,qB (by simp[CY];omega)];simp[BU,u,show k<52 by omega]
  have S:=Nz (l:=Q) (i:=k) L true ((26:Int)+k);have y:∀x,Z (Q.set k x)=52:=λx=>by rw[LC,e]
  clear b;refine X ?_;exact⟨Q.set k (true,(26:Int)+k),oj⟩
 obtain rfl:k=26:=L;have t:Q=BU:=by rw[b.o];rfl
 subst t;have P:=H5 e;clear b;refine mt B ?_;rintro yb ya _ _ ⟨⟨d,rfl,v⟩,g⟩;have R:=g.C;obtain⟨F,D,n,rfl,A⟩:=v;refine X ?_;exact⟨_,rfl,⟨_,rfl,F,D,n,rfl,A⟩,Xs⟩
def Np (P:List Tm)(t u:Tm):Option (List Tm):=
 if Hl P t=Hl P u then some P else if (Hl P u).1=true then some (Us P (Hl P u) (Hl P t))else if (Hl P t).1=true then some (Us P (Hl P t) (Hl P u))else none
def Dy:List Tm->List Tm->List Tm->Option (List Tm)
 |P,[],_=>some P
 |_,_::_,[]=>none
 |P,t::b,u::a=>(Np P t u).bind λc=>Dy c b a
def BY:List Tm:=(range 52).map λ(i:Nat)=>(true,(i:Int))
def Ni:Z BY=52:=by simp[BY]
def PF:Option (List Tm)->AV
 |some P=>tp [ag (Ad P),my true]
 |none=>tp [ag (Ad CY),my false]
def Of (P v t):Z (Us P v t)=Z P:=by simp[Us]
def rL {P}{b a:List Tm}{k t u}(g:b[k]?=some t)(e:a[k]?=some u):Dy P (b.drop k) (a.drop k)=(Np P t u).bind λd=>Dy d (b.drop (k+1)) (a.drop (k+1)):=by let⟨c,i⟩:=BA.1 g;let⟨f,e2⟩:=BA.1 e;rw[ET c,ET f,i,e2];rfl
def yA (a b:Dx)(i1 y)(hl:Z a.ts=Z b.ts)(hn:Z a.ts<=1000)(ha:∀t∈a.ts,zU t)(hb:∀t∈b.ts,zU t)(j):
  ni 210 [ag [Y a.p,X1 i1 a.ts],ag [Y b.p,X1 y b.ts]] j λak d=>ak=PF (Dy BY a.ts b.ts)/\W j d:=by
 have b1:=U9;have hz:=Oj;have bu:=Cx a.ts;have br:=Cx b.ts;have b3:=Gx;have a7:V (Z a.ts=Z b.ts):=hl;clear hl;refine wl func210 ?_;refine X ?_
 refine wn [2,3,4,6] 12 52 (λk aa d=>∃Q:List Tm,W j d/\j.B+3<d.B/\d.C j.B=[Y a.p,X1 i1 a.ts]/\d.C (j.B+1)=[Y b.p,X1 y b.ts]/\d.C (j.B+2)=Ad CY/\d.C (j.B+3)=Ad Q/\Z Q=52/\V (Q=BY.take k++CY.drop k)) ⟨CY,Xs,AM,?_,?_,?_,?_,by simp[CY],by simp[V]⟩ ?_
 ·rw[Ah AM,Ah AM,Ah AM,Ao]
 ·rw[Ah AM,Ah AM,Be AM AM]
 ·rw[Ah AM,Be AM AM]
 ·rw[Be AM AM]
 rintro k aa d hk ⟨h2,h3,h4,h6⟩ bp ⟨Q,e,a3,bc,N,S,m,n,D⟩;have a8:=e.B;have bb:=G9 n;by_cases s:k<52
 ·have bd:V (Q.set k (true,(k:Int))=BY.take (k+1)++CY.drop (k+1)):=by
   rw[V,D.o,qB (by simp[CY];omega)];simp[BY,s]
  have bz:=Nz (l:=Q) (i:=k) L true (k:Int);have be:∀x,Z (Q.set k x)=52:=λx=>by rw[LC,n]
  clear D;refine X ?_;exact⟨Q.set k (true,(k:Int)),oj⟩
 obtain rfl:k=52:=L;have HQ:Q=BY:=by rw[D.o];rfl
 subst HQ;clear D s hk n bb;refine X ?_
 refine wn [3,4,6,21,22] 23 (Z a.ts) (λk aa d=>∃Q:List Tm,W j d/\j.B+3<d.B/\d.C (j.B+1)=[Y b.p,X1 y b.ts]/\d.C (j.B+2)=Ad CY/\d.C (j.B+3)=Ad Q/\Z Q=52/\V (Dy BY a.ts b.ts=Dy Q (a.ts.drop k) (b.ts.drop k))) ⟨BY,e,a3,N,S,m,Ni,by simp[V]⟩ ?_
 clear h2 h3 h4 h6 bp e a3 bc N S m a8;rintro k aa d _ ⟨h3,h4,h6,bo,bn⟩ bm ⟨Q,e,a3,N,S,m,n,D⟩;have a8:=e.B;have bb:=G9 n;have bv:=H5 n;by_cases s:k<Z a.ts
 ·have ba:k<Z b.ts:=ny a7.o
  have g1:=AK s;have g2:=AK ba;have az:=ha a.ts[k] (AR s);have ay:=hb b.ts[k] (AR ba);let⟨r1,bi⟩:=C3 g1;let⟨r2,bh⟩:=C3 g2;have f:V (Dy BY a.ts b.ts=(Np Q a.ts[k] b.ts[k]).bind λP'=>Dy P' (a.ts.drop (k+1)) (b.ts.drop (k+1))):=by rw[V,D.o,rL g1 g2]
  clear D g1 g2;generalize a.ts[k]=t at bi az f;generalize b.ts[k]=af at bh ay f;have T:=λj=>X0 Q n t az j;have u:=λj=>X0 Q n af ay j;unfold Np at f;generalize Hl Q t=x at T f;generalize Hl Q af=am at u f;let⟨g,c⟩:=x;let⟨y1,v⟩:=am;dsimp only at T u f;clear az ay;refine mt T ?_;rintro yb ya _ _ ⟨rfl,U⟩;have ax:=U.B;have ah:=U.C;simp only[Aa,Ac]at ax ah;refine X ?_;rename_i o;have a6:W j ((o.new [my false,Y 0]).put o.B [my g,Y c]):=((((e.new _).put e.B _).trans U).new _).put L _;have R:∀p,p<d.B->((o.new [my false,Y 0]).put o.B [my g,Y c]).C p=d.C p:=λp hp=>by rw[Aj L,Ah L,ah _ L,Aj L,Ah L]
  have a2:((o.new [my false,Y 0]).put o.B [my g,Y c]).C o.B=[my g,Y c]:=Ak;have nb:o.B<((o.new [my false,Y 0]).put o.B [my g,Y c]).B:=BJ;generalize (o.new [my false,Y 0]).put o.B [my g,Y c]=G at a6 R a2 nb;have ab:G.C (j.B+1)=[Y b.p,X1 y b.ts]:=by rw[R _ L,N]
  have ad:G.C (j.B+2)=Ad CY:=by rw[R _ L,S]
  have ac:G.C (j.B+3)=Ad Q:=by rw[R _ L,m]
  clear R ah U e N S m T;refine A2 (Q:=λae C a1=>ae= .normal/\∃A:Nat,C 11=ptr A 0/\G.B<=A/\A<a1.B/\a1.C A=[my y1,Y v]/\C 3=ptr (j.B+1) 0/\C 4=ptr (j.B+2) 0/\C 6=ptr (j.B+3) 0/\C 10=ptr o.B 0/\C 21=X1 i1 a.ts/\C 22=Y (Z a.ts)/\C 23=Y k/\W G a1) ?_ ?_
  ·refine bT [8] [0,1,2,3,4,5] 3 (nv 9 63) ?_;refine D8 (rs:=[6,7]) AH nk ?_;intro aj hi;simp only[BD,EK,DZ]at hi;obtain rfl|rfl:=hi
   ·refine Am ?_;intro yb ya;refine Z3 ?_;refine AF.mono (u _) ?_;rintro _ E ⟨rfl,q⟩;have ai:=q.B;refine ux ?_;refine rl 7 ?_;refine rl 8 ?_;exact Aw AH ⟨rfl,E.B,AG,L,BJ,Ak,AI,AI,AI,AI,AI,AI,AI,(q.new _).put L _⟩
   refine ta ?_;refine tn 6 u ?_;rintro yb ya _ E ⟨rfl,q⟩;have ai:=q.B;have I:=q.C;simp only[Aa]at ai I;have b7:E.C G.B=[my false,Y 0]:=by rw[I _ L,Ao]
   have a5:W G E:=((W.refl _).new _).trans q;refine ux ?_;refine rl 8 ?_;exact Aw AH ⟨rfl,G.B,AG,L,by simp only[Ac];omega,Ak,AI,AI,AI,AI,AI,AI,AI,a5.put L _⟩
  rintro ae C E ⟨rfl,A,au,b0,b2,oy,g3,g4,g6,ap,b4,b5,b6,q⟩;have ai:=q.B;have I:=q.C;have b8:E.C (j.B+1)=[Y b.p,X1 y b.ts]:=by rw[I _ L,ab]
  have b9:E.C (j.B+2)=Ad CY:=by rw[I _ L,ad]
  have bg:E.C (j.B+3)=Ad Q:=by rw[I _ L,ac]
  have ox:E.C o.B=[my g,Y c]:=by rw[I _ L,a2]
  have a5:=a6.trans q;clear I q a6 ab ad ac a2 h3 h4 h6 bo bn bm u;by_cases z:((g,c):Tm)=(y1,v)
  ·have hc:(g==y1&&c==v):=by simp at z;simp[z]
   have B:V (Dy BY a.ts b.ts=Dy Q (a.ts.drop (k+1)) (b.ts.drop (k+1))):=by rw[V,f.o,if_pos z];rfl
   clear f z;refine X ?_;refine⟨Q,?_⟩;exact m9 B
  rw[if_neg z]at f;cases y1
  ·rw[if_neg nk]at f;cases g with
   |true=>
    have M:=λj=>lT Q n (true,c) (false,v) j;have F:Z (Us Q (true,c) (false,v))=52:=by rw[Of,n]
    have B:V (Dy BY a.ts b.ts=Dy (Us Q (true,c) (false,v)) (a.ts.drop (k+1)) (b.ts.drop (k+1))):=by rw[V,f.o,if_pos rfl];rfl
    generalize Us Q (true,c) (false,v)=K at M F B;have a4:=G9 F;have a0:=H5 F;have a9:=P7 n F;clear f z;refine m0 ?_;intro yb ya;refine Xi (M _) ?_;rintro _ _ ⟨rfl,i⟩;(have ao:=i.B;have an:=i.C);refine X ?_;refine⟨K,?_⟩;exact m9 B
   |false=>
    have B:V (Dy BY a.ts b.ts=none):=by rw[V,f.o,if_neg nk];rfl
    have bq:=H5 (P:=CY) (by simp[CY]);have bw:=P7 (P:=CY) (Q:=CY) (by simp[CY]) (by simp[CY]);have hc:(c==v)=false:=nn z;clear f z;refine X ?_;exact⟨_,rfl,by rw[B.o];rfl,Xs⟩
  have M:=λj=>lT Q n (true,v) (g,c) j;have F:Z (Us Q (true,v) (g,c))=52:=by rw[Of,n]
  have B:V (Dy BY a.ts b.ts=Dy (Us Q (true,v) (g,c)) (a.ts.drop (k+1)) (b.ts.drop (k+1))):=by rw[V,f.o,if_pos rfl];rfl
  generalize Us Q (true,v) (g,c)=K at M F B;have a4:=G9 F;have a0:=H5 F;have a9:=P7 n F;clear f;cases g with
  |true=>
   have hc:(c==v)=false:=nn z;clear z;refine m0 ?_;intro yb ya;refine Xi (M _) ?_;rintro _ _ ⟨rfl,i⟩;(have ao:=i.B;have an:=i.C);refine X ?_;refine⟨K,?_⟩;exact m9 B
  |false=>
   clear z;refine m0 ?_;intro yb ya;refine Xi (M _) ?_;rintro _ _ ⟨rfl,i⟩;(have ao:=i.B;have an:=i.C);refine X ?_;refine⟨K,?_⟩;exact m9 B
 have bf:k=Z a.ts:=L;have f:V (Dy BY a.ts b.ts=some Q):=by
  rw[V,D.o,bf,IZ];rfl
 have a9:=P7 (P:=CY) (by simp[CY]) n;clear D;refine X ?_;exact⟨_,rfl,by rw[f.o];rfl,Xs⟩
def PN (c:oh):Prop:=∃(b:Bool) (p:Int) (d n:Nat) (a:oh),c=[my b,Y p,sl d n a]/\∀x∈a,∃v,x=sc v
def Tl {α:Type}(E:α->oh->Prop)(a:α)(d:oh):Prop:=∃x,E a (x::d)
def pC {α:Type}{E}(d:∀a c,E a c->PN c):∀{l:List α} {cs:oh},r (Tl E) l cs->∀c∈cs,Plain c
 |[],cs,h,c,b=>by obtain rfl:cs=[]:=h;cases b
 |a::l,_,⟨c1,c2,⟨x,hx⟩,h2,rfl⟩,c,b=>by obtain b|b:=AW.1 b;let⟨_,p,g,n,i,e,f⟩:=d _ _ hx;simp at e;rw[e.2]at b;simp only[BD,EK,DZ]at b;obtain rfl|rfl:=b;exact .inl ⟨_,rfl⟩;exact .inr ⟨_,_,_,rfl,f⟩;exact pC d h2 c b
def qZ {α:Type}{E:α->oh->Prop}(D:∀a c,E a c->PN c)(p ih n P)(N:∀x∈P,∃v,x=sc v)(l id b)(M:r E l b)(hn:Z l<=1000)(j):
  ni 133 [ag [my false,Y p,sl ih n P,sl id (Z l) b]] j λS f=>∃(o m:Nat) (cs:oh),S=fx o 0 m/\j.B<=o/\f.C o=cs/\W j f/\(∀c∈cs,Plain c)/\(m=Z l+1/\∃e,cs=Y p::sl ih n P::e/\r (Tl E) l e):=by
 have K:∀a c,E a c->Z c=3:=λa c h=>by obtain⟨_,_,_,_,_,rfl,-⟩:=D a c h;rfl
 have ap:=r.length K M;refine wl func133 ?_;refine X ?_;have I:W j (j.new [my false,Y p,sl ih n P,sl id (Z l) b]):=(W.refl _).new _;have Q:((Z l:Int)+1).toNat=Z l+1:=L
 refine Ae (λm s f=>∃(k:Nat) (d:oh),m=Z l-k/\k<=Z l/\s 3=fx (j.B+1) 0 (Z l+1)/\s 18=sl id (Z l) b/\s 19=Y (Z l)/\s 20=Y k/\W j f/\j.B+1<f.B/\f.C (j.B+1)=d/\Z d=(Z l+1)*2/\V (∃e,d=(Y p::sl ih n P::e)++(replicate (Z l-k) [Y 0,H]).flatten/\Z e=k*2/\r (Tl E) (l.take k) e)) (Z l)
  ⟨0,_,L,L,by simp[upd,Q],AG,AG,rfl,(I.new _).put L _,BJ,Ak,ns Q,[],?_,rfl,rfl⟩ ?_
 ·rw[Q,U8 L];rfl
 clear I;rintro m s f ⟨k,d,rfl,a5,a7,ax,aw,av,G,ao,a0,a3,z⟩;have a4:=G.B;by_cases U:k<Z l
 ·obtain⟨a,y⟩:=gq U;obtain⟨c,S,u,T⟩:=r.get K M y;obtain⟨a8,C,F,B,A,rfl,a1⟩:=D _ _ u;simp only[EW,FE]at T;have a2:V (∃e,(d.set ((k+1)*2) (Y C)).set ((k+1)*2+1) (sl F B A)=(Y p::sl ih n P::e)++(replicate (Z l-(k+1)) [Y 0,H]).flatten/\Z e=(k+1)*2/\r (Tl E) (l.take (k+1)) e):=by
   let⟨e,g,e2,i⟩:=z.o;refine⟨e++[Y C,sl F B A],?_,by simp[e2];omega,?_⟩
   ·rw[g,U8 L,uW (by simp[e2];omega)];simp[Nat.sub_sub]
   rw[AT,y];exact r.append i (r.single ⟨_,u⟩)
  clear y u z a1;have a6:((k:Int)+1).toNat=k+1:=L;refine X ?_;refine⟨Z l-(k+1),L,k+1,(d.set ((k+1)*2) (Y C)).set ((k+1)*2+1) (sl F B A),?_⟩
  ((repeat' refine Zi ?_ ?_)<;>first|exact Xq|exact (((G.new _).put G.B _).put L _)|exact Ak|exact a2|exact (by simp[a3])|exact Xs)
 obtain rfl:k=Z l:=L;let⟨e,g,e2,i⟩:=z.o;rw[GX,replicate_zero,flatten_nil,EJ]at g;rw[AS]at i;have t:∀c∈d,Plain c:=λc q=>by
  rw[g]at q;simp only[BD]at q;obtain rfl|rfl|q:=q
  ·exact .inl ⟨_,rfl⟩
  ·exact .inr ⟨_,_,_,rfl,N⟩
  exact pC D i c q
 have R:V ((∀c∈d,Plain c)/\∃e,d=Y p::sl ih n P::e/\r (Tl E) l e):=⟨t,e,g,i⟩;clear z g e2 i t;refine X ?_;exact⟨_,rfl,j.B+1,_,d,rfl,L,a0,R.o.1,rfl,R.o.2⟩
def eU (ts):∀x∈Ad ts,∃v,x=sc v:=λx b=>by obtain⟨t,-,a⟩:=EX.1 b;simp[Js]at a;grind
def ZZ (l c)(h:Sq l c):PN c:=by obtain⟨id,rfl⟩:=h;exact⟨_,_,_,_,_,rfl,eU _⟩
def Hs (a:E3):List Dx:=a.h::a.A.map (·.a)
def Fc (a:E3):List Int:=Cs (Hs a)
def RQ:∀{l:List Lit} {b:oh},r (Tl Sq) l b->r O9 (l.map (·.a)) b
 |[],_,h=>h
 |a::l,_,⟨c1,c2,⟨x,ia,e⟩,h2,rfl⟩=>⟨c1,c2,⟨ia,nn ((cons.inj e).2)⟩,RQ h2,rfl⟩
def lP (o c)(b:T1 false o c)(g:Z o.A<=1000)(j):ni 133 [ag c] j λx a=>∃id cs,x=sl id (Z (Hs o)) cs/\r O9 (Hs o) cs/\W j a:=by obtain⟨e,l,m,rfl,d⟩:=b;refine (AF.freeze (qZ ZZ _ _ _ _ (eU _) _ _ _ d g j)).mono λx a h=>?_;obtain⟨n,cs,rfl,⟨rfl,k,rfl,i⟩,f⟩:=h;exact⟨0,_,by simp[Hs],⟨_,_,⟨e,rfl⟩,RQ i,rfl⟩,f⟩
def Mk (B c)(g:T1 false B c)(d:LP B)(j):ni 96 [ag c] j λx n=>(∃id,x=X2 id (Fc B))/\W j n:=by
 have y:=d.bl;have p:=λj=>lP B c g L j
 have i:=λk b m j=>Hy (Hs B) k b m (λa f=>by
  obtain rfl|f:=BD.1 f
  ·exact d.h3
  obtain⟨l,o,rfl⟩:=AN.1 f
  exact d.b3 l o) (by grind[Hs]) j
 obtain⟨s,z,v,rfl,-⟩:=g;rw[Fc];generalize Cs (Hs B)=u at i;apply wl func96
 repeat' first|refine Z1 ?_|refine Z8 λyb ya=>?_|refine Z4 ?_;clear ya yb|refine Z2 ?_ ?_<;>intro h A<;>try exact Xp|(refine Z5 ?_;first|(apply Xi (p _);rintro _ _ ⟨b,k,rfl,m,t⟩)|(apply Xi (i _ _ nu _);rintro _ _ ⟨⟨e,rfl⟩,q⟩))|refine Z3 ?_|exact Zt|apply ya.o;clear ya yb
 exact⟨_,rfl,⟨e,rfl⟩,Xs⟩
def lZ (l:List Int)(v:Int):Int:=if v∈l then (l.idxOf v:Nat)else -1
def G8 (l:List Int)(t:Tm):Tm:=(t.1,if t.1=true then lZ l t.2 else t.2)
def Oy (l ido m S ts)(K:Z l<=100000)(hn:Z ts<=1000)(j):
  ni 144 [ag [Y m,X1 S ts],X2 ido l] j λT a=>(∃id,T=ag [Y m,sl id (Z ts) (Ad (ts.map (G8 l)))])/\W j a:=by
 have a2:=Cx ts;refine wl func144 ?_;refine X ?_
 refine wn [1,4,5,12,13] 14 (Z ts) (λk s a=>∃(g:Nat) (b:oh),W j a/\j.B+2<a.B/\a.C (j.B+1)=[Y 0,H]/\a.C (j.B+2)=[Y m,sl g k b]/\J j a g k/\Z b=k*2/\V (b=Ad ((ts.take k).map (G8 l)))) ⟨1,[],?_,?_,?_,?_,J.nil _ _,nk,by simp[V,Ad]⟩ ?_
 ·exact ((((W.refl j).new _).new _).new _).put L _
 ·simp only[Ac,Aa];omega
 ·rw[Aj L,Ah AM,Be (by rw[Aa];omega) (by rw[Aa];omega)]
 ·rw[show j.B+2=j.B+1+1 by omega,Ak]
 rintro k s a _ _ _ ⟨g,b,e,a1,ax,Q,z,B,p⟩;have a3:=e.B;by_cases E:k<Z ts
 ·obtain⟨w,i⟩:=gq E;obtain⟨a0,U⟩:=C3 i;let⟨C,c⟩:=w;have n:V (Ad ((ts.take (k+1)).map (G8 l))=b++Js (G8 l (C,c))):=by
   rw[V,AT,i,BN,EU,map_singleton,Uj,<-p.o]
  clear i p;cases C
  ·have o:V (b++[my false,Y c]=Ad ((ts.take (k+1)).map (G8 l))):=by rw[V,n.o];rfl
   clear n;refine nh ?_;intro yb ya;have y:W j ((a.new [my false,Y 0]).put a.B [my false,Y c]):=(e.new _).put e.B _;refine Bo (by first|exact Gl) y (J.put (J.new z _) _ _) nr (by rfl) B (by rfl) (by rfl) nr L L ?_;intro d I q t R x M P;simp only[Ac,Aa]at x;refine Z3 ?_;refine X ?_;refine⟨d,b++[my false,Y c],?_⟩
   ((repeat' refine Zi ?_ ?_)<;>first|exact Xq|exact (t.put L _)|exact (J.put q _ _)|exact o|exact Xs)
  have u:=λj=>H7 c l ido K j;have o:V (b++[my true,Y (lZ l c)]=Ad ((ts.take (k+1)).map (G8 l))):=by rw[V,n.o];rfl
  have D:∀v,(if v∈l then ((l.idxOf v:Nat):Int)else -1)=lZ l v:=λ_=>rfl;rw[D]at u;generalize lZ l c=A at u o;clear D n;refine m0 ?_;intro yb ya;refine Xi (u _) ?_;rintro _ _ ⟨rfl,f⟩;(have N:=f.B;have F:=f.C;simp only[Aa,Ac]at N F);refine nh ?_;intro yb ya;rename_i G;have y:W j (G.put a.B [my true,Y A]):=(((e.new _).put e.B _).trans f).put L _;refine Bo (by first|exact Gl) y (J.put (J.keep (J.put (J.new z _) _ _) f) _ _) nr (by rfl) B (by rfl) (by rfl) nr L L ?_;intro d I q t R x M P;simp only[Ac,Aa]at x;refine Z3 ?_;refine X ?_;refine⟨d,b++[my true,Y A],?_⟩
  ((repeat' refine Zi ?_ ?_)<;>first|exact Xq|exact (t.put L _)|exact (J.put q _ _)|exact o|exact Xs)
 obtain rfl:k=Z ts:=L;rw[AS]at p;refine X ?_;exact⟨_,rfl,⟨g,by rw[p.o]⟩,e.put L _⟩
end Go.Proofs.YtmoeoppbmhfbpabGreatDoorJ
