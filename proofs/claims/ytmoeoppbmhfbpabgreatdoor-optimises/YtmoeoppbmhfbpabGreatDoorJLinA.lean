import Derived.Test.YtmoeoppbmhfbpabGreatDoorJAgrB
import Derived.Test.YtmoeoppbmhfbpabGreatDoorJPrtP
import Derived.Test.YtmoeoppbmhfbpabGreatDoorJUnfD
import Derived.Test.YtmoeoppbmhfbpabGreatDoorJNegB
import Derived.Test.YtmoeoppbmhfbpabGreatDoorJOptE
import Derived.Test.YtmoeoppbmhfbpabGreatDoorJDocJ
set_option maxHeartbeats 64000000
set_option maxRecDepth 100000
set_option linter.all false
open List renaming length->Z
namespace Go.Proofs.YtmoeoppbmhfbpabGreatDoorJ
open Go.Abs
def sK (p:Tx):Tx:=p++[40,65,44,66,41,58,45]++p++[40,65,44,67,41,44]++p++[40,67,44,66,41,46]
def S7 (p e:Tx):Tx:=p++[40,65,44,66,41,58,45]++e++[40,65,44,66,41,46]
def Lj (x:AB):Bool:=Bw x==sK x.h.B
def Jf (x:AB):Bool:=match x.A with
 |[a]=>!decide (a.B=x.h.B)&&(Bw x==S7 x.h.B a.B)
 |_=>false
def rG {N:ol}{p}(h:p∈N):(N.map str).drop (N.idxOf p)=str p::(N.map str).drop (N.idxOf p+1):=by
 have a:=CS h;have:=A1 a;rwa[FN a]at this
def Zo (N l cs idn idi)(i:Bk N l cs)(x c)(g:PI N x c)(k:WI N x)(a):ni 180 [Cq N idn l idi cs,ag c] a λr σ'=>r=my (Lj x)/\AD a σ':=by
 have d:=λa=>Kk N l cs idn idi i x c g k a;have v:=i.nm;have o:=k.short.1.1;obtain⟨j,s,id,b,u,rfl⟩:=g;have m:=CS j;have n:=rG j;have B:({data:=#[40,65,44,66,41,58,45]}:ByteArray)=bs [40,65,44,66,41,58,45]:=rfl;have y:({data:=#[40,65,44,67,41,44]}:ByteArray)=bs [40,65,44,67,41,44]:=rfl;have z:({data:=#[40,67,44,66,41,46]}:ByteArray)=bs [40,67,44,66,41,46]:=rfl;have f:AC (∀t,t=sK x.h.B->(Bw x==t)=Lj x):=λt e=>by rw[e];rfl
 generalize N.idxOf x.h.B=q at m n d;generalize Bw x=W at d f;refine Z9 25 [.tmp 4] Tryz.func180 ?_
 repeat' first|refine Z1 ?_|refine Z8 λyb ya=>?_|refine Z4 ?_;clear ya yb|refine Z2 ?_ ?_<;>intro h C<;>try exact Xp|refine Z5 ?_;refine Xi (d _) ?_;rintro _ _ ⟨rfl,p⟩;(have A:=p.B)|refine Z7 ?_|exact Zt|apply ya.o;clear ya yb
 exact⟨_,rfl,by rw[<-f.o _ rfl];simp[sK],Xs⟩
def RD {N:ol}{p q}(b:p∈N)(a:q∈N):(((N.idxOf p:Nat):Int)==((N.idxOf q:Nat):Int))=decide (p=q):=by
 by_cases h:p=q;subst h;simp
 have:N.idxOf p≠N.idxOf q:=λe=>h (by
  have d:=FN (CS b);have c:=FN (CS a)
  rw[<-d,<-c];congr 1)
 simp[h];omega
def nP (N l cs idn idi)(I:Bk N l cs)(x c)(D:PI N x c)(s:WI N x)(g):ni 213 [Cq N idn l idi cs,ag c] g λr σ'=>r=my (Jf x)/\AD g σ':=by
 have o:=λg=>Kk N l cs idn idi I x c D s g;have hN:=I.nm;have U:=s.short.1.1;have B:=s.short.2;have S:=s.A;obtain⟨z,y,id,b,q,rfl⟩:=D;have G:=CS z;have F:=rG z;have X:=EL.length Eh q;have h1:({data:=#[40,65,44,66,41,58,45]}:ByteArray)=bs [40,65,44,66,41,58,45]:=rfl;have h2:({data:=#[40,65,44,66,41,46]}:ByteArray)=bs [40,65,44,66,41,46]:=rfl;by_cases k:Z x.A=1
 ·obtain⟨a,u⟩:=List.length_eq_one_iff.1 k;have J:x.A[0]?=some a:=by rw[u];rfl
  obtain⟨A,K,E,H⟩:=Pu q J;have av:=(B a (by rw[u];simp)).1;have O:=CS A;have P:=rG A;have v:=RD A z;have Y:((Z x.A:Int) !=1)=false:=by rw[k];rfl
  simp only[KY,JH]at H;subst H;have j:AC (Jf x=(!decide (a.B=x.h.B)&&(Bw x==S7 x.h.B a.B))):=by rw[AC,Jf,u]
  have aw:0<Z x.A:=AA;generalize N.idxOf x.h.B=p at G F o v;generalize N.idxOf a.B=L at O P v o X;generalize Bw x=W at o j;generalize Z x.A=n at*
  clear k J u B q;refine Z9 49 [.tmp 4] Tryz.func213 ?_;refine mu ?_;refine A2 (Q:=λe f d=>e= .normal/\f 22=my (decide (a.B=x.h.B))/\f 2=ptr g.B 0/\f 3=ptr (g.B+1) 0/\d=(g.new [sl idn (Z N) (N.map str),sl idi (Z l) cs]).new [my x.o,ic p,sl y (Z x.h.A) (A0 x.h.A),sl id n (my a.nt::ic L::sl K (Z a.A) (A0 a.A)::E)]) ?_ ?_
  ·refine Ar Ag (λ_=>True) [] [0,1,2,3,4,5,6,7,8,9,10,11,12,13,14,15] 0 (nv 16 65535) AH (λ_ _ _ h=>by cases h.1) ?_;intro yb ya;refine Z7 ?_;refine ya.o _ ?_;clear ya yb;exact Aw AH ⟨rfl,AI,AI,AI,rfl⟩
  rintro e f d ⟨rfl,i,M,R,rfl⟩;cases m:decide (a.B=x.h.B)with
  |true=>
   have C:AC (Jf x=false):=by rw[AC,j.o,m];rfl
   rw[m]at i;clear j m;refine Cj i ?_;refine mu ?_;exact⟨_,rfl,by rw[C.o],Xs⟩
  |false=>
   have C:AC (∀t,t=S7 x.h.B a.B->(W==t)=Jf x):=λt e=>by rw[e,j.o,m];rfl
   rw[m]at i;clear j m v;refine De i ?_;refine mu ?_;refine A2 (Q:=λe f d=>e= .normal/\f 5=str x.h.B/\f 6=str a.B/\f 2=ptr g.B 0/\f 3=ptr (g.B+1) 0/\d=(g.new [sl idn (Z N) (N.map str),sl idi (Z l) cs]).new [my x.o,ic p,sl y (Z x.h.A) (A0 x.h.A),sl id n (my a.nt::ic L::sl K (Z a.A) (A0 a.A)::E)]) ?_ ?_
   ·refine Ar Ag (λ_=>True) [] [0,1,2,3,4,5,6,7,8,9,10] 0 (nv 11 2047) AH (λ_ _ _ h=>by cases h.1) ?_;intro yb ya;refine Z7 ?_;refine ya.o _ ?_;clear ya yb;exact Aw AH ⟨rfl,AI,AI,AI,AI,rfl⟩
   rintro e s2 T ⟨rfl,k5,k6,k2,k3,rfl⟩
   repeat' first|refine Z1 ?_|refine Z8 λyb ya=>?_|refine Z4 ?_;clear ya yb|refine Z2 ?_ ?_<;>intro h aa<;>try exact Xp|refine Z5 ?_;refine Xi (o _) ?_;rintro _ _ ⟨rfl,V⟩;(have ak:=V.B)|refine Z7 ?_|exact Zt|apply ya.o;clear ya yb
   exact⟨_,rfl,by rw[<-C.o _ rfl];simp[S7],Xs⟩
 have Y:((Z x.A:Int) !=1)=true:=by simp;omega
 have j:AC (Jf x=false):=by
  unfold Jf AC;split
  ·rename_i a e;rw[e]at k;exact absurd rfl k
  rfl
 generalize N.idxOf x.h.B=p at G F o;generalize Z x.A=n at*
 clear k B q;refine Z9 49 [.tmp 4] Tryz.func213 ?_;refine mu ?_;refine A2 (Q:=λe f d=>e= .normal/\f 22=my true/\f 2=ptr g.B 0/\f 3=ptr (g.B+1) 0/\d=(g.new [sl idn (Z N) (N.map str),sl idi (Z l) cs]).new [my x.o,ic p,sl y (Z x.h.A) (A0 x.h.A),sl id n b]) ?_ ?_
 ·refine Ar Ag (λ_=>True) [] [0,1,2,3,4,5,6,7,8,9,10,11,12,13,14,15] 0 (nv 16 65535) AH (λ_ _ _ h=>by cases h.1) ?_;intro yb ya;refine Z7 ?_;refine ya.o _ ?_;clear ya yb;exact Aw AH ⟨rfl,AI,AI,AI,rfl⟩
 rintro e f d ⟨rfl,i,M,R,rfl⟩;refine Cj i ?_;refine mu ?_;exact⟨_,rfl,by rw[j.o],Xs⟩
def Ik (n:Nat)(q:Tx)(p:AB×Nat):Bool:=!decide (p.2=n)&&Fw q p.1
def E5 (l:n0)(n:Nat)(q:Tx):n0:=(l.zipIdx.filter (Ik n q)).map (·.1)
def Tf {l:n0}{n q i y}(h:l[i]?=some y):E5 (l.take (i+1)) n q=E5 (l.take i) n q++if Ik n q (y,i)=true then [y]else []:=by
 have a:=(BA.1 h).1;unfold E5;rw[AT,h,BN,List.zipIdx_append,IR,EU,CN,ER AA];congr 1;rw[show ([y]:n0).zipIdx (0+i)=[(y,i)]by simp,List.filter_cons];split<;>rfl
def UW (l n q i):∃r,E5 l n q=E5 (l.take i) n q++r:=by
 refine⟨(((l.drop i).zipIdx (Z (l.take i))).filter (Ik n q)).map (·.1),?_⟩
 conv=>lhs;rw[<-KD i l]
 unfold E5;rw[List.zipIdx_append,IR,EU,DY]
def Ez (l:n0)(n:Nat)(q:Tx):Option Tx:=match E5 l n q with
 |[y]=>if Jf y=true then (match y.A with|[a]=>some a.B|_=>none)else none
 |_=>none
def My (N:ol)(l:n0)(n:Nat)(q:Tx):Int:=match Ez l n q with
 |some e=>(N.idxOf e:Nat)
 |none=> -1
def UZ {y}(h:Jf y=true):∃a,y.A=[a]:=by
 unfold Jf at h;split at h;rename_i a e;exact⟨a,e⟩;cases h
def Uq (N ar l cs)(idn f n:Nat)(x)(u:BB N ar l)(R:EL (PI N) l cs)(W:l[n]?=some x)(j):ni 181 [Cq N idn l f cs,ic n] j λr σ'=>r=ic (My N l n x.h.B)/\AD j σ':=by
 have bh:=EL.length Ew R;have av:=u.gl.len;have hN:=u.gl.nm;have a9:=λy c (J:PI N y c) (hm:y∈l) j=>nP N l cs idn f ((u.gl.bkm R).bk av) y c J (u.wi y hm) j;have bf:n<Z l:=(BA.1 W).1;obtain⟨a4,ihx,idx,bx,rx,bi,bg⟩:=Ih R W;have HB:AC (∀y∈l,Z y.A<=5/\y.h.B∈N/\∀a∈y.A,y.o=false->a.B∈N):=λy J=>⟨u.b5 y J,(u.gl.msr y J).mem,λa H ho=>((u.ru y J ho).A a H).mem⟩;clear u;refine Z9 52 [.tmp 4] Tryz.func181 ?_;refine mr ?_
 refine Ae (λm s σ'=>∃(i:Nat) (v:Int),m=Z l-i/\i<=Z l/\s 1=ic n/\s 2=ptr j.B 0/\s 5=ic v/\s 9=sl f (Z l) cs/\s 10=ic (Z l)/\s 11=ic i/\AD j σ'/\j.B<σ'.B/\σ'.C j.B=[sl idn (Z N) (N.map str),sl f (Z l) cs]/\AC ((E5 (l.take i) n x.h.B=[]/\v= -1)\/∃y a,E5 (l.take i) n x.h.B=[y]/\Jf y=true/\y.A=[a]/\v=((N.idxOf a.B:Nat):Int))) (Z l)
  ⟨0,-1,AA,AA,by simp[upd,AL],AG,AG,AG,AG,AG,Xs,AM,Ao,.inl ⟨rfl,rfl⟩⟩ ?_
 rintro m s σ' ⟨i,v,rfl,hi,h1,h2,h5,h9,bb,ba,hK,be,a3,g⟩;have bc:=hK.B;by_cases X:i<Z l;have M:=AK X;have S:=AR X;obtain⟨U,aw,a8⟩:=HB.o l[i] S;obtain⟨ay,L,E,b,r,I,hd⟩:=Ih R M;have B:=λj=>a9 l[i] _ (PI.of (ih:=L) (id:=E) ay I) S j;have d:=Tf (n:=n) (q:=x.h.B) M;have D:=UW l n x.h.B (i+1);generalize l[i]=y at M S U aw a8 ay I hd B d D;have a5:=vP aw a4;have bm:=EL.length Eh I;clear M;refine mr ?_;refine A2 (Q:=λe k A=>e= .normal/\k 35=my (!Ik n x.h.B (y,i))/\k 1=ic n/\k 2=ptr j.B 0/\k 5=ic v/\k 7=ptr σ'.B 0/\k 9=sl f (Z l) cs/\k 10=ic (Z l)/\k 11=ic i/\A=(σ'.new [my false,ic 0,nilS,nilS]).put σ'.B [my y.o,ic (N.idxOf y.h.B:Nat),sl L (Z y.h.A) (A0 y.h.A),sl E (Z y.A) b]) ?_ ?_;have ax:((σ'.new [my false,ic 0,nilS,nilS]).put σ'.B [my y.o,ic (N.idxOf y.h.B:Nat),sl L (Z y.h.A) (A0 y.h.A),sl E (Z y.A) b]).C j.B=[sl idn (Z N) (N.map str),sl f (Z l) cs]:=by rw[Aj AA,Ah AA,a3]
 by_cases G:i=n;have K:AC (Ik n x.h.B (y,i)=false):=by simp[AC,Ik,G]
 have a7:((i:Int)==(n:Int))=true:=by simp[G]
 clear G d g;refine Ar Ag (λ_=>True) [] [0,1,2,3,4,5,6,7,8,9,10,11,12,13,14,15,16,17,18,19] 0 (nv 20 1048575) AH (λ_ _ _ h=>by cases h.1) ?_;intro yb ya;refine Z3 ?_;refine ya.o _ ?_;clear ya yb;exact Aw AH ⟨rfl,by rw[K.o];simp[upd, *],AI,AI,AI,AI,AI,AI,AI,rfl⟩;have a7:((i:Int)==(n:Int))=false:=by simp;omega
 cases o:y.o with
 |true=>
  have K:AC (Ik n x.h.B (y,i)=false):=by simp[AC,Ik,Fw,o]
  rw[o]at ax;clear G d g o;refine Ar Ag (λ_=>True) [] [0,1,2,3,4,5,6,7,8,9,10,11,12,13,14,15,16,17,18,19] 0 (nv 20 1048575) AH (λ_ _ _ h=>by cases h.1) ?_;intro yb ya;refine Z3 ?_;refine ya.o _ ?_;clear ya yb;exact Aw AH ⟨rfl,by rw[K.o];simp[upd, *],AI,AI,AI,AI,AI,AI,AI,rfl⟩
 |false=>
  have K:AC ((!Ik n x.h.B (y,i))=!decide (y.h.B=x.h.B)):=by simp[AC,Ik,Fw,o,G]
  rw[o]at ax;clear G d g o;refine Ar Ag (λ_=>True) [] [0,1,2,3,4,5,6,7,8,9,10,11,12,13,14,15,16,17,18,19] 0 (nv 20 1048575) AH (λ_ _ _ h=>by cases h.1) ?_;intro yb ya;refine Z3 ?_;refine ya.o _ ?_;clear ya yb;exact Aw AH ⟨rfl,by rw[K.o];simp[upd, *],AI,AI,AI,AI,AI,AI,AI,rfl⟩
 rintro e k A ⟨rfl,p,g1,g2,g5,g7,g9,g10,g11,rfl⟩;clear h1 h2 h5 h9 bb ba a5;cases t:Ik n x.h.B (y,i)with
 |false=>
  rw[t]at p d;have T:AC ((E5 (l.take (i+1)) n x.h.B=[]/\v= -1)\/∃y a,E5 (l.take (i+1)) n x.h.B=[y]/\Jf y=true/\y.A=[a]/\v=((N.idxOf a.B:Nat):Int)):=by
   rw[AC,d];simpa using g.o
  clear d D g t B;refine Cj p ?_;refine mr ?_;refine⟨Z l-(i+1),AA,i+1,v,?_⟩;exact m9 T
 |true=>
  rw[t]at p d;simp only[if_true]at d;have o:y.o=false:=by
   unfold Ik Fw at t;simp only[BM,FJ]at t;exact t.2.1
  refine De p ?_;by_cases P:v= -1;have V:E5 (l.take i) n x.h.B=[]:=by
   rcases g.o with⟨e,-⟩|⟨y,a,-,-,-,e⟩;exact e;omega
  rw[V,FE]at d;subst P;cases C:Jf y with
  |false=>
   have F:AC (My N l n x.h.B= -1):=by
    obtain⟨r,e⟩:=D;rw[d]at e;unfold My Ez AC;rw[e];cases r with
    |nil=>simp[C]
    |cons a r=>rfl
   rw[C,o]at B;clear d D g t C V;refine m0 ?_;intro yb ya;refine Xi (B _) ?_;rintro _ _ ⟨rfl,O⟩;(have Y:=O.B);refine mr ?_;exact⟨_,rfl,by rw[F.o],Xs⟩
  |true=>
   obtain⟨a,H⟩:=UZ C;have T:AC ((E5 (l.take (i+1)) n x.h.B=[]/\((N.idxOf a.B:Nat):Int)= -1)\/∃y b,E5 (l.take (i+1)) n x.h.B=[y]/\Jf y=true/\y.A=[b]/\((N.idxOf a.B:Nat):Int)=((N.idxOf b.B:Nat):Int)):=.inr ⟨y,a,d,C,H,rfl⟩;obtain⟨bn,ia,ra,a0⟩:=Pu I (show y.A[0]?=some a by rw[H];rfl);simp only[KY,JH]at a0;have bo:0<Z y.A:=by rw[H];simp
   rw[C]at B;rw[o]at B;subst a0;clear d D g t C V H I;refine m0 ?_;intro yb ya;refine Xi (B _) ?_;rintro _ _ ⟨rfl,O⟩;(have Y:=O.B;have ao:=O.C;simp only[Ac,Aa]at Y ao);refine mr ?_;refine⟨Z l-(i+1),AA,i+1,((N.idxOf a.B:Nat):Int),?_⟩;exact m9 T
  have bd:(v != -1)=true:=nn P;have F:AC (My N l n x.h.B= -1):=by
   rcases g.o with⟨-,e⟩|⟨z,a,e,-,-,-⟩;exact absurd e P;obtain⟨r,e2⟩:=D;rw[d,e]at e2;unfold My Ez AC;rw[e2];rfl
  clear d D g t P B;refine mr ?_;exact⟨_,rfl,by rw[F.o],Xs⟩
 have a6:i=Z l:=AA;subst a6;have F:AC (My N l n x.h.B=v):=by
  have:=g.o;rw[AS]at this;unfold My Ez AC;rcases this with⟨e,rfl⟩|⟨y,a,e,e2,e3,rfl⟩;rw[e];rw[e];simp only[e2,if_true,e3]
 clear g;refine mr ?_
 first|exact⟨_,rfl,by rw[F.o],hK⟩|exact⟨_,rfl,by rw[F.o]⟩
def PS.down {lo a p b x n d}(h:PS lo b x n d)(f:a<=lo)(e:p<lo)(c):PS a (b.put p c) x n d:=by
 rcases h.put e c with h|⟨o,cap,e1,e2,e3,e4,e5,e6,e7⟩;exact .inl h;exact .inr ⟨o,cap,e1,e2,e3,e4,e5,AA,e7⟩
def xP (r c)(hc:T1 false r c)(B:LP r)(d):
  ni 93 [ag c] d λx σ'=>(∃ih X xs,x=ag [my false,ic (Fa r).h.p,sl ih (Z (Fa r).h.ts) (Ad (Fa r).h.ts),X]/\PS d.B σ' X (Z (Fa r).A) xs/\EL Sq (Fa r).A xs)/\AD d σ':=by
 have a7:=λd=>Mk r c hc B d;have bb:=bJ B;have bo:=B.bl;obtain⟨ih,id,b,rfl,hb⟩:=hc;have bn:=EL.length Hk hb;unfold Fa;generalize Fc r=l at a7 bb;have a8:=λf d=>Oy l f r.h.p ih r.h.ts AA (by have:=B.h3;omega) d;have a9:=λf (a:Lit) T (ha:a∈r.A) d=>Oy l f a.a.p T a.a.ts AA (by have:=B.b3 a ha;omega) d;refine Z9 39 [.cell 2 125] Tryz.func93 ?_;refine m0 ?_;intro yb ya;refine Xi (a7 _) ?_;rintro _ _ ⟨⟨f,rfl⟩,O⟩;(have K:=O.C;have ao:=O.B;simp only[Aa]at ao);refine mr ?_;rename_i q;have I:q.C d.B=[my false,ic r.h.p,sl ih (Z r.h.ts) (Ad r.h.ts),sl id (Z r.A) b]:=by
  rw[K _ AM,Ah AM,Ao]
 have G:q.C (d.B+1)=[my false,ic 0,nilS,nilS]:=by
  rw[K _ AM,Be (by rw[Aa];omega) (by rw[Aa];omega)]
 have C:AD d q:=Xs;clear K O;refine A2 (Q:=λe s σ'=>e= .normal/\∃o n:Nat,s 1=ptr d.B 0/\s 2=ptr (d.B+1) 0/\s 3=sl f (Z l) (As l)/\s 4=ptr o 0/\d.B+1<o/\o<σ'.B/\σ'.C d.B=[my false,ic r.h.p,sl ih (Z r.h.ts) (Ad r.h.ts),sl id (Z r.A) b]/\σ'.C (d.B+1)=[my false,ic 0,nilS,nilS]/\σ'.C o=[my false,ic r.h.p,sl n (Z r.h.ts) (Ad (r.h.ts.map (G8 l))),nilS]/\AD d σ') ?_ ?_
 ·refine Ar Ag (λ_=>True) [8] [0,1,2,3,4] 4 (nv 9 31) AH (λ_ _ _ h=>by cases h.1) ?_;intro yb ya;refine Z3 ?_;refine ya.o _ ?_;clear ya yb;have z:=λd=>a8 f d;refine D8 (rs:=[5,7]) AH nk ?_;intro i A;simp only[BD,EK,DZ]at A;rcases A with rfl|rfl
  ·refine Am ?_;intro yb ya;refine Z3 ?_;refine AF.mono (z _) ?_;rintro _ g ⟨⟨n,rfl⟩,j⟩;have u:=j.C;have an:=j.B;refine Z3 ?_;refine ya.o _ _ ⟨Al j,?_⟩;clear ya yb;refine D8 (rs:=[6,7]) AH nk ?_;intro i A;simp only[BD,EK,DZ]at A;rcases A with rfl|rfl
   ·refine Am ?_;intro yb ya;refine Z3 ?_;refine ya.o _ _ ⟨Al j,?_⟩;clear ya yb;refine Ai (i:=7) AH ?_;refine Am ?_;intro yb ya;refine Z3 ?_;refine ya.o _ _ ⟨Al (j.new _),?_⟩;clear ya yb;refine Ai (i:=8) AH ?_;refine Am ?_;intro yb ya;refine Z3 ?_;refine ya.o _ _ ⟨A3 rfl,?_⟩;clear ya yb;refine Aw AH ⟨rfl,g.B,n,AG,AG,AG,AG,AA,BJ,?_,?_,Ak,?_⟩
    ·rw[Aj AA,Ah AA,u _ AA,I]
    ·rw[Aj AA,Ah AA,u _ AA,G]
    exact ((C.trans j).new _).put AA _
   refine Am ?_;intro yb ya;refine Z3 ?_;refine ya.o _ _ ⟨Al (j.new _),?_⟩;clear ya yb;refine Ai (i:=6) AH ?_;refine Am ?_;intro yb ya;refine Z3 ?_;refine ya.o _ _ ⟨Al (j.new _),?_⟩;clear ya yb;refine Ai (i:=8) AH ?_;refine Am ?_;intro yb ya;refine Z3 ?_;refine ya.o _ _ ⟨A3 rfl,?_⟩;clear ya yb;refine Aw AH ⟨rfl,g.B,n,AG,AG,AG,AG,AA,BJ,?_,?_,Ak,?_⟩
   ·rw[Aj AA,Ah AA,u _ AA,I]
   ·rw[Aj AA,Ah AA,u _ AA,G]
   exact ((C.trans j).new _).put AA _
  refine Am ?_;intro yb ya;refine Z3 ?_;refine ya.o _ _ ⟨Al ((AD.refl _).new _),?_⟩;clear ya yb;refine Ai (i:=5) AH ?_;refine Am ?_;intro yb ya;refine Z3 ?_;refine AF.mono (z _) ?_;rintro _ g ⟨⟨n,rfl⟩,j⟩;have u:=j.C;have an:=j.B;simp only[Aa]at an;refine Z3 ?_;refine ya.o _ _ ⟨Al (((AD.refl _).new _).trans j),?_⟩;clear ya yb;refine Ai (i:=6) AH ?_;refine Am ?_;intro yb ya;refine Z3 ?_;refine ya.o _ _ ⟨Al (((AD.refl _).new _).trans j),?_⟩;clear ya yb;refine Ai (i:=8) AH ?_;refine Am ?_;intro yb ya;refine Z3 ?_;refine ya.o _ _ ⟨A3 rfl,?_⟩;clear ya yb;refine Aw AH ⟨rfl,q.B,n,AG,AG,AG,AG,AA,BJ,?_,?_,Ak,?_⟩
  ·rw[Aj AA,u _ (by rw[Aa];omega),Ah AA,I]
  ·rw[Aj AA,u _ (by rw[Aa];omega),Ah AA,G]
  exact ((C.new _).trans j).put AA _
 rintro e s g ⟨rfl,o,n,h1,M,N,R,bm,bh,ba,L,S,t⟩;have W:=t.B;clear C I G ao a8;refine mr ?_
 refine Ae (λm s σ'=>∃(k:Nat) (X:AV) (xs:oh),m=Z r.A-k/\k<=Z r.A/\s 2=ptr (d.B+1) 0/\s 3=sl f (Z l) (As l)/\s 4=ptr o 0/\s 18=sl id (Z r.A) b/\s 19=ic (Z r.A)/\s 20=ic k/\AD d σ'/\g.B<=σ'.B/\σ'.C (d.B+1)=[my false,ic 0,nilS,nilS]/\σ'.C o=[my false,ic r.h.p,sl n (Z r.h.ts) (Ad (r.h.ts.map (G8 l))),X]/\PS g.B σ' X k xs/\AC (EL Sq ((r.A.take k).map (JS l)) xs)) (Z r.A)
  ⟨0,nilS,[],AA,AA,by simp[upd,M],by simp[upd,N],by simp[upd,R],AG,AG,rfl,t,AU _,L,S,.inl ⟨rfl,rfl,rfl⟩,rfl⟩ ?_
 clear h1 M N R ba L S t W;rintro m s σ' ⟨k,X,xs,rfl,hk,M,N,R,br,bq,bp,t,bi,L,S,v,H⟩;have W:=t.B;have be:=v.flat;by_cases V:k<Z r.A
 ·have F:=AK V;obtain⟨T,rr,hd⟩:=H8 hb F;have Y:=λd=>a9 f r.A[k] T (AR V) d;generalize r.A[k]=a at hd F Y;have HX:AC (∀y,EL Sq ((r.A.take (k+1)).map (JS l)) (xs++[my a.neg,ic a.a.p,sl y (Z a.a.ts) (Ad (a.a.ts.map (G8 l)))])):=λy=>by
   rw[AT,F,BN,EU];exact EL.append H.o (EL.single ⟨y,by simp[JS,lN]⟩)
  clear F H a9;refine m0 ?_;intro yb ya;refine Xi (Y _) ?_;rintro _ _ ⟨⟨y,rfl⟩,J⟩;(have U:=J.C;have a0:=J.B;simp only[Aa,Ac]at a0 U);refine nh ?_;intro yb ya;rename_i σ4;have bg:=((t.new [my false,ic 0,nilS]).put t.B _).trans J;refine wA (lo:=g.B) (σ0:=d) (by first|exact G5) (by rfl) (by rfl) (by rfl) AA AA (by simp only[Az,Ac,Aa];omega) AA (((bg.new _).put AA _).lay 1) (v.keep ((((((AD.refl _).new _).put (AU _) _).trans J).new _).put AA _|>.lay 1)) ?_;intro X' P a6 bc ap ak;simp only[Az,Ac,Aa]at bc;have eob:∀p,p<g.B->P.C p=σ'.C p:=λp hp=>by rw[ap p hp,H6,Aj AA,Ah AA,U _ AA,Aj AA,Ah AA]
  obtain⟨og,cg,rfl,-⟩:=a6.gx AA;clear ap v;refine Z3 ?_;refine mr ?_;refine⟨Z r.A-(k+1),AA,k+1,gx og (k+1) cg,xs++[my a.neg,ic a.a.p,sl y (Z a.a.ts) (Ad (a.a.ts.map (G8 l)))],?_⟩
  ((repeat' refine Zi ?_ ?_)<;>first|exact Xq|exact (ak.put AA _)|exact (a6.put AA _)|exact (HX.o y)|exact Xs)
 have bd:k=Z r.A:=AA;subst bd;rw[AS]at H;have HP:AC (PS d.B ((σ'.put (d.B+1) [my false,ic r.h.p,sl n (Z r.h.ts) (Ad (r.h.ts.map (G8 l))),X])) X (Z r.A) xs):=v.down AA AA _;have bf:X=nilS\/∃D E,X=gx D (Z r.A) E:=by
  rcases v with⟨h,-⟩|⟨D,E,h,-⟩
  ·exact .inl h
  exact .inr ⟨D,E,h⟩
 clear v be;rcases bf with rfl|⟨D,E,rfl⟩
 all_goals
  refine mr ?_;exact⟨_,rfl,⟨n,_,xs,by simp[lN];rfl,nn HP.o,nn H.o⟩,t.put AA _⟩
def vO {α b:Type}[BEq α][LawfulBEq α][BEq b][LawfulBEq b]{f:α->b}{t}:∀{l:List α},(∀u∈l,f u=f t->u=t)->(l.map f).idxOf (f t)=l.idxOf t
 |[],_=>rfl
 |a::l,h=>by
  rw[CC,JZ,JZ];by_cases e:a=t;subst e;simp;have e2:f a≠f t:=λe2=>e (h a nk e2);rw[show (f a==f t)=false by simpa using e2,show (a==t)=false by simpa using e,vO λu c=>h u (by simp[c])]
def e2 (t:Tx):Int:=(Aq t).2
def TB {t u}(a:UT t)(b:UT u)(c:Ab t=true)(h2:Ab u=true)(h:e2 t=e2 u):t=u:=DJ.inj t u a b (GB (by rw[Cb,Cb,c,h2]) h)
def mS:∀{c acc:ol},(∀t∈acc,UT t/\Ab t=true)->(∀t∈c,UT t)->(c.map Aq).foldl vF (acc.map e2)=(Fu acc c).map e2
 |[],_,_,_=>rfl
 |t::c,acc,d,j=>by
  have i:=j t nk;have e:vF (acc.map e2) (Aq t)=(Er acc t).map e2:=by
   unfold vF Er;rw[Cb];by_cases b:Ab t=true;by_cases f:t∈acc;rw[if_neg λh=>h.2 (AN.2 ⟨t,f,rfl⟩),if_neg λh=>h.2 f]
   rw[if_pos ⟨b,λh=>by
    obtain⟨u,g,e⟩:=AN.1 h
    exact f (by rw[<-TB (d u g).1 i (d u g).2 b e];exact g)⟩,if_pos ⟨b,f⟩]
   simp[e2];rw[if_neg λh=>b h.1,if_neg λh=>b h.1]
  rw[CC,FW,e];show _=(Fu (Er acc t) c).map e2;refine mS (λu a=>?_) λu a=>j u (by simp[a]);unfold Er at a;split at a;rename_i k;rcases AW.1 a with h|h;exact d u h;simp at h;subst h;exact⟨i,k.1⟩;exact d u a
def UX {N x}(q:x.o=false)(r:Dc x)(j:∀a∈Af x,∀t∈a.A,UT t):Fa (Ce N x)=Ce N (ren x):=by
 have i:Af x=x.h::x.A:=by simp[Af,q]
 have n:Fc (Ce N x)=(Au x).map e2:=by
  have e:(Hs (Ce N x)).flatMap (·.ts)=((Af x).flatMap (·.A)).map Aq:=by
   rw[i];simp[Hs,Ce,Eg,E6,JG,LH]
  unfold Fc Cs Au;rw[e];refine mS (acc:=[]) (λt d=>by cases d) λt d=>?_;obtain⟨a,c,k⟩:=EX.1 d;exact j a c t k
 have l:∀v∈Au x,UT v/\Ab v=true:=λv b=>by
  obtain⟨C,-⟩:=K7 ((Af x).flatMap (·.A)) [] (λv b=>by cases b) GN;obtain⟨B,g⟩:=C v b;rcases g with g|g;cases g;obtain⟨a,c,k⟩:=EX.1 g;exact⟨j a c v k,B⟩
 have f:∀a∈Af x,lN (Fc (Ce N x)) (Eg N a)=Eg N (Br (Au x) a):=λa c=>by
  unfold lN Eg Br;simp only[BH];congr 1;refine CG λt d=>?_;have p:=j a c t d;show G8 (Fc (Ce N x)) (Aq t)=Aq (C6 (Au x) t);rw[jq p.1 (λb=>On r c d b)];unfold G8;rw[Cb];congr 1;by_cases b:Ab t=true;have m:t∈Au x:=No _ _ _ (.inr ⟨EX.2 ⟨a,c,d⟩,b⟩);have s:(Aq t).2∈Fc (Ce N x):=by rw[n];exact AN.2 ⟨t,m,rfl⟩
  have z:(Fc (Ce N x)).idxOf (Aq t).2=(Au x).idxOf t:=by
   rw[n];exact vO λu o e=>TB (l u o).1 p (l u o).2 b e
  rw[if_pos b,if_pos b,lZ,if_pos s,Bv,if_pos m,z];rw[if_neg b,if_neg b]
 unfold Fa;have y:lN (Fc (Ce N x)) (Ce N x).h=Eg N (Br (Au x) x.h):=f x.h (by rw[i];simp);have A:(Ce N x).A.map (JS (Fc (Ce N x)))=(x.A.map (Br (Au x))).map (E6 N):=by
  show (x.A.map (E6 N)).map _=_;rw[BH,BH];refine CG λa c=>?_;show (⟨a.nt,lN (Fc (Ce N x)) (Eg N a)⟩:Lit)=⟨a.nt,Eg N (Br (Au x) a)⟩;rw[f a (by rw[i];simp[c])]
 rw[y,A];rfl
def TC {y z}(c:Dc y)(b:Dc z)(h:Bz y++[46]=Bz z++[46]):y=z:=by
 have e:Bz y=Bz z:=List.append_cancel_right h;have a:=(Jl c).1;rw[e,(Jl b).1]at a;exact a.symm
def Cn (p q:Tx):AB:=⟨false,⟨false,p,[[65],[66]]⟩,[⟨false,q,[[65],[67]]⟩,⟨false,p,[[67],[66]]⟩]⟩
def xA (p e:Tx):AB:=⟨false,⟨false,p,[[65],[66]]⟩,[⟨false,e,[[65],[66]]⟩]⟩
def TA {b}(h:Bs b.toNat=true):Mm [b]:=⟨nk,λc a=>by simp at a;subst a;exact .inl h⟩
def MV {p}(h:Jy p){n b c}(e:Bs b.toNat=true)(d:Bs c.toNat=true):En ⟨n,p,[[b],[c]]⟩:=⟨h,nk,nk,λt a=>by
 simp only[BD,EK,DZ]at a;rcases a with rfl|rfl;exact TA e
 exact TA d⟩
def ky {p q}(b:Jy p)(d:Jy q):Dc (Cn p q):=⟨b,(λe=>by cases e),λ_=>⟨MV b rfl rfl,rfl,by simp[Cn],λa c=>by
 simp only[Cn,BD,EK,DZ]at c;rcases c with rfl|rfl;exact MV d rfl rfl
 exact MV b rfl rfl⟩⟩
def ki {p q}(c:Jy p)(d:Jy q):Dc (xA p q):=⟨c,(λe=>by cases e),λ_=>⟨MV c rfl rfl,rfl,by simp[xA],λa b=>by
 simp only[xA,BD,EK,DZ]at b;subst b
 exact MV d rfl rfl⟩⟩
def oS {N x}(a:Dc x)(b:WI N x)(h:Lj x=true):ren x=Cn x.h.B x.h.B:=by
 unfold Lj at h;rw[DO,Kq a]at h;exact TC (Ky a b) (ky a.1 a.1) (by rw[h];simp[sK,Bz,Cn,D1,Bh,Bp,Ch,Cl])
def YF {N x a}(b:Dc x)(e:WI N x)(c:x.A=[a])(h:Jf x=true):ren x=xA x.h.B a.B:=by
 have d:x.o=false:=by
  cases d:x.o with
  |false=>rfl
  |true=>rw[(b.2.1 d).2.2]at c;cases c
 unfold Jf at h;rw[c]at h;simp only[BM,DO]at h;rw[Kq b]at h;exact TC (Ky b e) (ki b.1 ((b.2.2 d).2.2.2 a (by rw[c];simp)).1) (by rw[h.2];simp[S7,Bz,xA,D1,Bh,Bp,Ch,Cl])
def SU {N b}(a:b.B∈N)(e:∀t∈b.A,UT t):N7 N b.nt (Eg N b)=b:=by
 obtain⟨n,p,d⟩:=b;unfold N7 Eg;have c:=CS a;simp only[DK,AK c,FN,MG,BH];congr 1
 conv=>rhs;rw[<-IE d]
 exact CG λt f=>(e t f).dec.1
def ZJ {N x}(d:x.o=false)(g:x.h.nt=false)(h:∀a∈Af x,a.B∈N/\∀t∈a.A,UT t):Cz N (Ce N x)=x:=by
 obtain⟨o,b,e⟩:=x;have d:o=false:=d;subst d;have f:∀a,a=b\/a∈e->a∈Af ⟨false,b,e⟩:=λa c=>by simpa[Af]using c
 have i:=h b (f b (.inl rfl));have j:=SU i.1 i.2;have g:b.nt=false:=g;rw[g]at j;unfold Cz Ce;simp only[j,BH];congr 1
 conv=>rhs;rw[<-IE e]
 exact CG λa c=>SU (h a (f a (.inr c))).1 (h a (f a (.inr c))).2
def pR {k:Nat}(h:k<26)(b)(a:b=Im k):UT [b]:=by rw[a];exact (pS h).1
def rO {p q}:∀a∈Af (Cn p q),Z a.A=2/\(a.B=p\/a.B=q)/\∀t∈a.A,UT t:=by
 have e:=pR (k:=0) nr 65 rfl;have c:=pR (k:=1) nr 66 rfl;have d:=pR (k:=2) nr 67 rfl;intro a b;simp only[Af,Cn,EI,if_false,List.singleton_append,BD,EK,DZ]at b;rcases b with rfl|rfl|rfl<;>simp[e,c,d]
def WE {N ar p q}(o:p∈N)(g:q∈N)(m:KO p)(x:KO q)(y:ar p=2)(aq:ar q=2):FB N ar (Ce N (Cn p q))/\Cz N (Ce N (Cn p q))=Cn p q:=by
 have f:∀a∈Af (Cn p q),a.B∈N/\KO a.B/\ar a.B=2:=λa b=>by
  rcases (rO a b).2.1 with e|e<;>rw[e];exact⟨o,m,y⟩;exact⟨g,x,aq⟩
 have c:∀a∈Af (Cn p q),IF N ar (Eg N a):=λa b=>by
  obtain⟨d,z,s⟩:=rO a b;obtain⟨r,i,v⟩:=f a b
  exact⟨⟨a.B,r,rfl,i,by simp[Eg,d,v]⟩,by simp[Eg,d],by simp[Eg,d],λt n=>by
   obtain⟨u,k,rfl⟩:=AN.1 n
   exact⟨u,s u k,rfl⟩⟩
 refine⟨⟨c _ (Ap (.inl ⟨rfl,rfl⟩)),λl j=>?_⟩,ZJ rfl rfl λa b=>⟨(f a b).1,(rO a b).2.2⟩⟩;obtain⟨a,b,rfl⟩:=AN.1 j;exact c a (Ap (.inr b))
def Ou {N ar l}(a:BB N ar l){i:Nat}{x}(g:l[i]?=some x)(f:Lj x=true):x.o=false/\Z x.A=2/\x.h.B∈N/\KO x.h.B/\ar x.h.B=2:=by
 have b:=AY g;have c:=oS (a.wit x b) (a.wi x b) f;have d:x.o=false:=congrArg AB.o c;have k:Z x.A=2:=by have:=congrArg (λy=>Z y.A) c;simpa[ren,Cn]using this
 have j:Z x.h.A=2:=by have:=congrArg (λy=>Z y.h.A) c;simpa[ren,Cn,Br]using this
 have e:=(a.ru x b d).h;exact⟨d,k,e.mem,⟨(a.wit x b).1,(a.gl.msr x b).hpl⟩,by rw[<-e.len,j]⟩
def Wx {N ar l}(d:BB N ar l){i p e}(h:Ez l i p=some e):e∈N/\KO e/\ar e=2:=by
 unfold Ez at h;split at h
 case h_2=>cases h
 rename_i y o;split at h
 case isFalse=>cases h
 rename_i v;split at h
 case h_2=>cases h
 rename_i a g;cases h;have q:y∈E5 l i p:=by rw[o];simp
 obtain⟨⟨z,j⟩,u,rfl⟩:=AN.1 q;obtain⟨s,k⟩:=BP.1 u;have c:z∈l:=LB s;have n:z.o=false:=by
  unfold Ik Fw at k;simp only[BM,FJ]at k;exact k.2.1
 have f:a∈z.A:=by rw[show z.A=[a]from g];simp
 have r:=YF (d.wit z c) (d.wi z c) g v;have t:Z a.A=2:=by
  have:=congrArg (λy:AB=>y.A.map λb=>Z b.A) r;simpa[ren,xA,Br,show z.A=[a]from g]using this
 have m:=(d.ru z c n).A a f;exact⟨m.mem,⟨((d.wit z c).2.2 n).2.2.2 a f|>.1,((d.gl.msr z c).at_ a (Ap (.inr f))).2.1⟩,by rw[<-m.len,t]⟩
def Yk (N:ol)(l:n0)(i:Nat):Bool:=match l[i]? with
 |some x=>Lj x&&(match Ez l i x.h.B with
  |some e=>C5 N l (rpl i [Cn x.h.B e] l)
  |none=>false)
 |none=>false
def MP (N:ol)(l:n0)(idn:Nat)(x:AV)(b:Bool):Prop:=
 (b=false/\∀i,i<Z l->Yk N l i=false)\/(b=true/\∃i y e,l[i]?=some y/\Lj y=true/\Ez l i y.h.B=some e/\Yk N l i=true/\(∀j,j<i->Yk N l j=false)/\∃id a,x=Cq N idn (rpl i [Cn y.h.B e] l) id a/\EL (PI N) (rpl i [Cn y.h.B e] l) a)
def rP {N ar l}(b:BB N ar l){i x e}(d:l[i]?=some x)(j:Lj x=true)(k:Ez l i x.h.B=some e):MN N ar [Cn x.h.B e]:=λy a _=>by
 simp at a;subst a;obtain⟨-,-,q,m,o⟩:=Ou b d j;obtain⟨n,c,p⟩:=Wx b k;obtain⟨f,g⟩:=WE q n m c o p;exact⟨_,g.symm,f,by simp[Ce,Cn]⟩
def yH {N ar l}(c:BB N ar l){i x e}(f:l[i]?=some x)(b:Lj x=true)(m:Ez l i x.h.B=some e){ih ib xs}(h:EL Sq (Fa (Ce N x)).A xs):PI N (Cn x.h.B e) [my false,ic (Fa (Ce N x)).h.p,sl ih (Z (Fa (Ce N x)).h.ts) (Ad (Fa (Ce N x)).h.ts),sl ib 2 (xs.set 1 (ic (N.idxOf e:Nat)))]:=by
 have d:=AY f;obtain⟨j,-,g,u,v⟩:=Ou c f b;obtain⟨o,r,y⟩:=Wx c m;rw[UX j (c.wit x d) (λa b=>((c.gl.msr x d).at_ a b).2.2),oS (c.wit x d) (c.wi x d) b]at h⊢;refine pE g (λa b=>?_) ?_;simp only[Cn,BD,EK,DZ]at b;rcases b with rfl|rfl;exact o;exact g;obtain⟨q,s,⟨n,rfl⟩,⟨t,k,⟨p,rfl⟩,e2,rfl⟩,rfl⟩:=h;have e2:k=[]:=e2;subst e2;exact⟨ih,ib,_,rfl,⟨_,_,⟨n,rfl⟩,⟨_,_,⟨p,rfl⟩,rfl,rfl⟩,rfl⟩⟩
def Um (N ar l cs idn idi)(hR:BB N ar l)(hE:EL (PI N) l cs)(d):
  ni 128 [Cq N idn l idi cs] d λr σ'=>(∃x b,r=tp [x,my b]/\MP N l idn x b/\pB x)/\AD d σ':=by
 have hG:=hR.gl;have da:=EL.length Ew hE;have bn:=hG.len;have cj:=(hG.bkm hE).bk bn;have HB:AC (JM N l cs):=hG.bkm hE;have c5:AC (EL (PJ N) l cs):=Qv hE λx hx c hc=>.inl ⟨hc,hG.msr x hx⟩;have I:AC (BB N ar l):=hR;have b1:=λx c (hx:PI N x c) (hm:x∈l) d=>Zo N l cs idn idi cj x c hx (hR.wi x hm) d;have bv:=λi x (hx:l[i]?=some x) d=>Uq N ar l cs idn idi i x hR hE hx d;clear hG hR cj;refine Z9 51 [.cell 2 62,.tmp 3] Tryz.func128 ?_;refine mr ?_
 refine Ae (λm s σ'=>∃(i:Nat),m=Z l-i/\i<=Z l/\s 1=ptr d.B 0/\s 2=ptr (d.B+1) 0/\s 12=sl idi (Z l) cs/\s 13=ic (Z l)/\s 14=ic i/\AD d σ'/\d.B+1<σ'.B/\σ'.C d.B=[sl idn (Z N) (N.map str),sl idi (Z l) cs]/\σ'.C (d.B+1)=[nilS,nilS]/\AC (∀j,j<i->Yk N l j=false)) (Z l)
  ⟨0,AA,AA,AG,AG,AG,AG,rfl,Xs,AM,by rw[Ah AM,Ao],by first|exact Ao|simp[Ao],λj h=>AA⟩ ?_
 rintro m s σ' ⟨i,rfl,hi,h1,h2,cy,cx,cw,hK,c9,b6,b5,T⟩;have c8:=hK.B;by_cases cd:i<Z l;have q:=AK cd;have ay:=AR cd;obtain⟨cc,ih,idb,b,r,br,hd⟩:=Ih hE q;generalize l[i]=x at hd q cc br ay;have db:=EL.length Eh br;have a4:=PI.of (ih:=ih) (id:=idb) cc br;have S:=λd=>b1 x _ a4 ay d;have Y:=λd=>bv i x q d;have R:AC (Yk N l i=false->∀j,j<i+1->Yk N l j=false):=λhf j hj=>by
  rcases FT j i with h|h;exact T.o j h;rw[show j=i by omega,hf]
 have z:Yk N l i=(Lj x&&(match Ez l i x.h.B with|some e=>C5 N l (rpl i [Cn x.h.B e] l)|none=>false)):=by unfold Yk;rw[q]
 cases u:Lj x with
 |false=>
  have a7:AC (∀j,j<i+1->Yk N l j=false):=R.o (by rw[z,u];rfl);rw[u]at S;clear z R T u Y q a4;refine m0 ?_;intro yb ya;refine Xi (S _) ?_;rintro _ _ ⟨rfl,v⟩;(have ae:=v.B;have H:=v.C;simp only[Ac,Aa]at ae H);refine mr ?_;refine⟨Z l-(i+1),AA,i+1,?_⟩;exact m9 a7
 |true=>
  rw[u]at S z;cases B:Ez l i x.h.B with
  |none=>
   have a7:AC (∀j,j<i+1->Yk N l j=false):=R.o (by rw[z,B];rfl);have e1:My N l i x.h.B= -1:=by unfold My;rw[B]
   rw[e1]at Y;clear z R T u B e1 q a4
   (repeat (refine m0 ?_;intro yb ya;(first|(refine Xi (S _) ?_;rintro _ _ ⟨rfl,v⟩;(have ae:=v.B;have H:=v.C;simp only[Ac,Aa]at ae H))|(refine Xi (Y _) ?_;rintro _ _ ⟨rfl,P⟩;(have be:=P.B;have ah:=P.C)))));refine mr ?_
   refine⟨Z l-(i+1),AA,i+1,?_⟩;exact m9 a7
  |some e=>
   rw[B]at z;simp only[FV]at z;have e1:My N l i x.h.B=((N.idxOf e:Nat):Int):=by unfold My;rw[B]
   rw[e1]at Y;have C:=(Ou I.o q u).1;have ce:=(Ou I.o q u).2.1;have ab:=λ(ih ib:Nat) (t:oh) (h:EL Sq (Fa (Ce N x)).A t)=>yH I.o q u B (ih:=ih) (ib:=ib) h;have ba:=rP I.o q u B;have HC:AC (∀id g J,Yk N l i=true->J=Cq N idn (rpl i [Cn x.h.B e] l) id g->EL (PI N) (rpl i [Cn x.h.B e] l) g->MP N l idn J true):=λid g J ho bf bq=>.inr ⟨rfl,i,x,e,q,u,B,ho,T.o,id,g,bf,bq⟩;have bz:=OV a4;rw[C]at bz;have a8:=λd=>xP (Ce N x) _ bz (sV (I.o.ru x ay C) (I.o.gl.msr x ay) C (I.o.wit x ay)).r52 d;have b0:Z (Fa (Ce N x)).A=2:=by simp[Fa,Ce,ce]
   have a3:=λco ido (h:EL (PJ N) [Cn x.h.B e] co) d=>Nb (E:=PJ N) SH N l [Cn x.h.B e] cs co idn idi ido i c5.o h AA nk d;have K:=λg id' (h:EL (PJ N) (rpl i [Cn x.h.B e] l) g) d=>Ib N l (rpl i [Cn x.h.B e] l) cs g idn idi id' HB.o (SO I.o ba nk i h) d;have M:AC (∀g,C5 N l (rpl i [Cn x.h.B e] l)=true->EL (PJ N) (rpl i [Cn x.h.B e] l) g->EL (PI N) (rpl i [Cn x.h.B e] l) g):=λg hb h=>by
    unfold C5 at hb;simp only[BM]at hb;exact Qv h λy hy c hc=>(hc.pi ((Ys hb.1).2 y hy)).1
   have b4:AC (∀c,PI N (Cn x.h.B e) c->PJ N (Cn x.h.B e) c):=λc hc=>.inl ⟨hc,by
    obtain⟨r,h1,h2,h3⟩:=ba (Cn x.h.B e) nk (by simp[Cn])
    rw[h1];exact h2.msr AA⟩
   rw[<-z]at K M;simp only[KZ]at a3;generalize Cn x.h.B e=V at ab ba HC a3 K M b4;generalize rpl i [V] l=W at HC a3 K M;generalize Fa (Ce N x)=O at ab a8 b0;rw[b0]at a8;have cm:AC _:=ab;rw[C]at S hd;clear z T u B e1 q a4 ab ba bz b0 ce
   (repeat (refine m0 ?_;intro yb ya;(first|(refine Xi (S _) ?_;rintro _ _ ⟨rfl,v⟩;(have ae:=v.B;have H:=v.C;simp only[Ac,Aa]at ae H))|(refine Xi (Y _) ?_;rintro _ _ ⟨rfl,P⟩;(have be:=P.B;have ah:=P.C)))));refine nh ?_;intro yb ya
   refine AF.mono (a8 _) ?_;rintro _ a ⟨⟨n,X,t,rfl,cf,ci⟩,a9⟩;obtain⟨o,f,rfl,cq,ct,bo,cu,b8⟩:=cf.gx AA;have cn:=a9.B;have ak:=a9.C;refine Z3 ?_;refine ya.o _ _ ?_;clear ya yb;refine Iy ?_;have bw:AD d ((a.new [my false,ic 0,nilS,nilS]).put a.B [my false,ic O.h.p,sl n (Z O.h.ts) (Ad O.h.ts),gx o 2 f]):=((((((hK.new _).put hK.B _).trans v).trans P).trans a9).new _).put AA _;have ca:((a.new [my false,ic 0,nilS,nilS]).put a.B [my false,ic O.h.p,sl n (Z O.h.ts) (Ad O.h.ts),gx o 2 f]).C o=a.C o:=by rw[Aj AA,Ah AA]
   have bg:((a.new [my false,ic 0,nilS,nilS]).put a.B [my false,ic O.h.p,sl n (Z O.h.ts) (Ad O.h.ts),gx o 2 f]).C a.B=[my false,ic O.h.p,sl n (Z O.h.ts) (Ad O.h.ts),gx o 2 f]:=Ak;have b3:((a.new [my false,ic 0,nilS,nilS]).put a.B [my false,ic O.h.p,sl n (Z O.h.ts) (Ad O.h.ts),gx o 2 f]).C d.B=[sl idn (Z N) (N.map str),sl idi (Z l) cs]:=by
    rw[Aj AA,Ah AA,ak _ AA,ah _ AA,H _ AA,Aj AA,Ah AA,b6]
   have b2:((a.new [my false,ic 0,nilS,nilS]).put a.B [my false,ic O.h.p,sl n (Z O.h.ts) (Ad O.h.ts),gx o 2 f]).C (d.B+1)=[nilS,nilS]:=by
    rw[Aj AA,Ah AA,ak _ AA,ah _ AA,H _ AA,Aj AA,Ah AA,b5]
   have cb:a.B<((a.new [my false,ic 0,nilS,nilS]).put a.B [my false,ic O.h.p,sl n (Z O.h.ts) (Ad O.h.ts),gx o 2 f]).B:=BJ;generalize (a.new [my false,ic 0,nilS,nilS]).put a.B [my false,ic O.h.p,sl n (Z O.h.ts) (Ad O.h.ts),gx o 2 f]=A at bw ca bg b3 b2 cb;have bp:1<Z (a.C o):=AA;have bh:o≠a.B:=AA;have bm:o≠d.B:=AA;have bi:o≠d.B+1:=AA;refine A2 (Q:=λe' D G=>e'= .normal/\D 1=ptr d.B 0/\D 2=ptr (d.B+1) 0/\D 4=ic i/\D 7=ptr a.B 0/\D 12=sl idi (Z l) cs/\D 13=ic (Z l)/\D 14=ic i/\G=A.put o ((a.C o).set 1 (ic (N.idxOf e:Nat)))) ?_ ?_;exact m7;rintro e' D G ⟨rfl,g1,g2,g4,g7,g12,g13,g14,rfl⟩;have a0:(A.put o ((a.C o).set 1 (ic (N.idxOf e:Nat)))).C a.B=[my false,ic O.h.p,sl n (Z O.h.ts) (Ad O.h.ts),gx o 2 f]:=by rw[Dz bh.symm,bg]
   refine Zk (o:=o) (p:=a.B) (j:=3) (k:=6) (by simp only[Ac];omega) (by simp only[Ac];omega) bh a0 rfl (by rw[Ak,LC];omega) ?_;have az:((A.put o ((a.C o).set 1 (ic (N.idxOf e:Nat)))).C o).take 6=t.set 1 (ic (N.idxOf e:Nat)):=by rw[Ak,List.take_set,b8]
   rw[az];have ch:AD d (((A.put o ((a.C o).set 1 (ic (N.idxOf e:Nat)))).put o []).put a.B ([my false,ic O.h.p,sl n (Z O.h.ts) (Ad O.h.ts),gx o 2 f].set 3 (sl 0 2 (t.set 1 (ic (N.idxOf e:Nat)))))):=((bw.put AA _).put AA _).put AA _;have b9:(((A.put o ((a.C o).set 1 (ic (N.idxOf e:Nat)))).put o []).put a.B ([my false,ic O.h.p,sl n (Z O.h.ts) (Ad O.h.ts),gx o 2 f].set 3 (sl 0 2 (t.set 1 (ic (N.idxOf e:Nat)))))).C a.B=[my false,ic O.h.p,sl n (Z O.h.ts) (Ad O.h.ts),sl 0 2 (t.set 1 (ic (N.idxOf e:Nat)))]:=Ak;have cz:(((A.put o ((a.C o).set 1 (ic (N.idxOf e:Nat)))).put o []).put a.B ([my false,ic O.h.p,sl n (Z O.h.ts) (Ad O.h.ts),gx o 2 f].set 3 (sl 0 2 (t.set 1 (ic (N.idxOf e:Nat)))))).C d.B=[sl idn (Z N) (N.map str),sl idi (Z l) cs]:=by
    rw[Dz AA,Dz bm.symm,Dz bm.symm,b3]
   have cv:(((A.put o ((a.C o).set 1 (ic (N.idxOf e:Nat)))).put o []).put a.B ([my false,ic O.h.p,sl n (Z O.h.ts) (Ad O.h.ts),gx o 2 f].set 3 (sl 0 2 (t.set 1 (ic (N.idxOf e:Nat)))))).C (d.B+1)=[nilS,nilS]:=by
    rw[Dz AA,Dz bi.symm,Dz bi.symm,b2]
   have cp:a.B<(((A.put o ((a.C o).set 1 (ic (N.idxOf e:Nat)))).put o []).put a.B ([my false,ic O.h.p,sl n (Z O.h.ts) (Ad O.h.ts),gx o 2 f].set 3 (sl 0 2 (t.set 1 (ic (N.idxOf e:Nat)))))).B:=by simp only[Ac];omega
   generalize ((A.put o ((a.C o).set 1 (ic (N.idxOf e:Nat)))).put o []).put a.B ([my false,ic O.h.p,sl n (Z O.h.ts) (Ad O.h.ts),gx o 2 f].set 3 (sl 0 2 (t.set 1 (ic (N.idxOf e:Nat)))))=F at ch b9 cz cv cp;have cg:=b4.o _ (cm.o n 0 t ci);have bu:=EL.single cg;generalize t.set 1 (ic (N.idxOf e:Nat))=ys at b9 bu;have ck:AC _:=bu;clear a0 az bw ca bg b3 b2 cb bp bh bm bi cg bu b8 ci cf a9 ak P ah v H a8 cm b4 S Y b6 b5 h1 h2 cy cx cw bo cu cq ct hd;have knoF:=ch.B;cases U:Yk N l i with
   |true=>
    rw[U]at K M;have c7:AC (∀id g J,J=Cq N idn W id g->EL (PJ N) W g->MP N l idn J true):=λid g J bf bq=>HC.o id g J U bf (M.o g rfl bq);clear R M HC U
    (repeat (refine m0 ?_;intro yb ya;(first|(refine Xi (a3 _ _ ck.o _) ?_;rintro _ _ ⟨⟨L,c6,rfl,bb⟩,a6⟩;(have am:=a6.B;have aj:=a6.C;(try simp only[Ac,Aa,Az]at am aj)))|(refine Xi (K c6 L bb _) ?_;rintro _ _ ⟨⟨x7,rfl,b7,⟨id71,n71,c71,id72,n72,c72,rfl⟩⟩,a5⟩;(have bd:=a5.B;have bc:=a5.C)))));refine mr ?_
    exact⟨_,rfl,⟨_,true,rfl,c7.o _ _ _ (b7 rfl) bb,_,_,_,_,_,_,rfl⟩,Xs⟩
   |false=>
    rw[U]at K;have a7:AC (∀j,j<i+1->Yk N l j=false):=R.o U;clear R M HC U
    (repeat (refine m0 ?_;intro yb ya;(first|(refine Xi (a3 _ _ ck.o _) ?_;rintro _ _ ⟨⟨L,c6,rfl,bb⟩,a6⟩;(have am:=a6.B;have aj:=a6.C;(try simp only[Ac,Aa,Az]at am aj)))|(refine Xi (K c6 L bb _) ?_;rintro _ _ ⟨⟨x7,rfl,b7,⟨id71,n71,c71,id72,n72,c72,rfl⟩⟩,a5⟩;(have bd:=a5.B;have bc:=a5.C)))));refine mr ?_
    refine⟨Z l-(i+1),AA,i+1,?_⟩;exact m9 a7
 have cr:i=Z l:=AA;subst cr;refine mr ?_;exact⟨_,rfl,⟨_,false,rfl,.inl ⟨rfl,T.o⟩,_,_,_,_,_,_,rfl⟩,Xs⟩
def DW (T:n0->Option n0->Prop)(N:ol)(l:n0)(idn:Nat)(x:AV)(b:Bool):Prop:=pB x/\∃o,T l o/\b=o.isSome/\∀a,o=some a->∃id c,x=Cq N idn a id c/\EL (PI N) a c
def KT (N:ol)(l:n0)(o:Option n0):Prop:=∃M,Dw N l M/\
 ((Z (Hq N (F9 (Z N) M (Z N)) l)=Z l/\o=none)\/(Z (Hq N (F9 (Z N) M (Z N)) l)≠Z l/\
  ((C5 N l (Hq N (F9 (Z N) M (Z N)) l)=false/\o=none)\/(C5 N l (Hq N (F9 (Z N) M (Z N)) l)=true/\o=some (Hq N (F9 (Z N) M (Z N)) l)))))
def KU (N:ol)(l:n0)(o:Option n0):Prop:=∃M,Dw N l M/\
 ((o=none/\xU N (F9 (Z N) M (Z N)) l (Z l))\/∃i k y a,o=some (rpl i (uL N l y k a.B) l)/\l[i]?=some y/\y.o=false/\y.A[k]?=some a/\Tg N (F9 (Z N) M (Z N)) l i k=true/\xU N (F9 (Z N) M (Z N)) l i/\∀b,b<k->Tg N (F9 (Z N) M (Z N)) l i b=false)
def KR (N:ol)(l:n0)(o:Option n0):Prop:=
 (o=none/\∀i,i<Z l->Yk N l i=false)\/∃i y e,o=some (rpl i [Cn y.h.B e] l)/\l[i]?=some y/\Lj y=true/\Ez l i y.h.B=some e/\Yk N l i=true/\∀j,j<i->Yk N l j=false
def MQ.stp {N l idn x b}(h:MQ N l idn x b)(g:pB x):DW (KT N) N l idn x b:=by
 refine⟨g,?_⟩;obtain⟨M,d,h⟩:=h;rcases h with⟨c,rfl⟩|⟨c,h2,h3⟩;exact⟨none,⟨M,d,.inl ⟨c,rfl⟩⟩,rfl,λf e=>by cases e⟩;cases a:C5 N l (Hq N (F9 (Z N) M (Z N)) l)with
 |false=>exact⟨none,⟨M,d,.inr ⟨c,.inl ⟨a,rfl⟩⟩⟩,by rw[h2,a];rfl,λf e=>by cases e⟩
 |true=>exact⟨_,⟨M,d,.inr ⟨c,.inr ⟨a,rfl⟩⟩⟩,by rw[h2,a];rfl,λf e=>by cases e;exact h3 (by rw[h2,a])⟩
def LY.stp {N l idn x b}(h:LY N l idn x b)(m:pB x):DW (KU N) N l idn x b:=by
 refine⟨m,?_⟩;obtain⟨M,c,⟨rfl,h⟩|⟨rfl,i,k,y,a,r,p,q,s,d,j,id,o,f,g⟩⟩:=h;exact⟨none,⟨M,c,.inl ⟨rfl,h⟩⟩,rfl,λn e=>by cases e⟩;exact⟨_,⟨M,c,.inr ⟨i,k,y,a,rfl,r,p,q,s,d,j⟩⟩,rfl,λn e=>by cases e;exact⟨id,o,f,g⟩⟩
def MP.stp {N l idn x b}(h:MP N l idn x b)(a:pB x):DW (KR N) N l idn x b:=by
 refine⟨a,?_⟩;rcases h with⟨rfl,h⟩|⟨rfl,i,y,e,h1,h2,h3,h4,h5,id,c',h7,h8⟩;exact⟨none,.inl ⟨rfl,h⟩,rfl,λc e=>by cases e⟩;exact⟨_,.inr ⟨i,y,e,rfl,h1,h2,h3,h4,h5⟩,rfl,λc e=>by cases e;exact⟨id,c',h7,h8⟩⟩
def KT.rt {N ar l b}(h:KT N l (some b))(a:BB N ar l):BB N ar b:=by
 obtain⟨M,-,⟨-,h⟩|⟨-,⟨-,h⟩|⟨-,h⟩⟩⟩:=h;cases h;cases h;cases h;exact a.sub (λx c=>(BP.1 c).1) (BI (IS _ _) a.gl.len)
def YX {N U l i k y a}(b:l[i]?=some y)(h2:y.A[k]?=some a)(h:Tg N U l i k=true):C5 N l (rpl i (uL N l y k a.B) l)=true:=by
 unfold Tg at h;rw[b]at h;dsimp only at h;rw[h2]at h;simp only[BM]at h;exact h.2.2.2
def YY {N l i y e}(a:l[i]?=some y)(h2:Ez l i y.h.B=some e)(h:Yk N l i=true):C5 N l (rpl i [Cn y.h.B e] l)=true:=by
 unfold Yk at h;rw[a]at h;dsimp only at h;rw[h2]at h;simp only[BM]at h;exact h.2
def KU.rt {N ar l e}(h:KU N l (some e))(c:BB N ar l):BB N ar e:=by
 obtain⟨M,-,⟨h,-⟩|⟨i,k,y,a,h,b,f,d,g,-⟩⟩:=h;cases h;cases h;exact OR c (OP c (AY b) f d) i (YX b d g)
def KR.rt {N ar l b}(h:KR N l (some b))(a:BB N ar l):BB N ar b:=by
 rcases h with⟨h,-⟩|⟨i,y,e,h,h1,h2,h3,h4,-⟩;cases h;cases h;exact OR a (rP a h1 h2 h3) i (YY h1 h3 h4)
def zA (N ar l cs idn idi)(k:BB N ar l)(o:EL (PI N) l cs)(a):
  ni 73 [Cq N idn l idi cs,sc (.int .u8 (115:UInt8).toNat)] a λr σ'=>(∃x b,r=tp [x,my b]/\DW (KT N) N l idn x b)/\AD a σ':=by
 have j:=λa=>Mu N l cs idn idi k.gl o a;have t:((((115:UInt8).toNat:Nat):Int)==115)=true:=rfl;refine Z9 38 [.cell 4 62,.tmp 5] Tryz.func73 ?_;refine m0 ?_;intro yb ya;refine Xi (j _) ?_;rintro _ _ ⟨⟨i,p,rfl,c,e⟩,d⟩;(have m:AC _:=c;have f:AC (pB i):=e;obtain⟨s,v,u,z,y,q,rfl⟩:=e;clear c;have g:=d.B;have n:=d.C;(try simp only[Aa]at g n));refine mr ?_;exact⟨_,rfl,⟨_,p,rfl,MQ.stp m.o f.o⟩,Xs⟩
def yZ (N ar l cs idn idi)(k:BB N ar l)(o:EL (PI N) l cs)(a):
  ni 73 [Cq N idn l idi cs,sc (.int .u8 (117:UInt8).toNat)] a λr σ'=>(∃x b,r=tp [x,my b]/\DW (KU N) N l idn x b)/\AD a σ':=by
 have j:=λa=>Q1 N ar l cs idn idi k o a;have t:((((117:UInt8).toNat:Nat):Int)==115)=false:=rfl;have e2:((((117:UInt8).toNat:Nat):Int)==97)=false:=rfl;have z:((((117:UInt8).toNat:Nat):Int)==114)=false:=rfl;have A:((((117:UInt8).toNat:Nat):Int)==117)=true:=rfl;refine Z9 38 [.cell 4 62,.tmp 5] Tryz.func73 ?_;refine m0 ?_;intro yb ya;refine Xi (j _) ?_;rintro _ _ ⟨⟨i,p,rfl,c,e⟩,d⟩;(have m:AC _:=c;have f:AC (pB i):=e;obtain⟨s,v,u,B,y,q,rfl⟩:=e;clear c;have g:=d.B;have n:=d.C;(try simp only[Aa]at g n));refine mr ?_;exact⟨_,rfl,⟨_,p,rfl,LY.stp m.o f.o⟩,Xs⟩
def zC (N ar l cs idn idi)(k:BB N ar l)(o:EL (PI N) l cs)(a):
  ni 73 [Cq N idn l idi cs,sc (.int .u8 (108:UInt8).toNat)] a λr σ'=>(∃x b,r=tp [x,my b]/\DW (KR N) N l idn x b)/\AD a σ':=by
 have j:=λa=>Um N ar l cs idn idi k o a;have u:((((108:UInt8).toNat:Nat):Int)==115)=false:=rfl;have e2:((((108:UInt8).toNat:Nat):Int)==97)=false:=rfl;have A:((((108:UInt8).toNat:Nat):Int)==114)=false:=rfl;have B:((((108:UInt8).toNat:Nat):Int)==117)=false:=rfl;have s:((((108:UInt8).toNat:Nat):Int)==108)=true:=rfl;refine Z9 38 [.cell 4 62,.tmp 5] Tryz.func73 ?_;refine m0 ?_;intro yb ya;refine Xi (j _) ?_;rintro _ _ ⟨⟨i,p,rfl,c,e⟩,d⟩;(have m:AC _:=c;have f:AC (pB i):=e;obtain⟨t,y,v,C,z,q,rfl⟩:=e;clear c;have g:=d.B;have n:=d.C;(try simp only[Aa]at g n));refine mr ?_;exact⟨_,rfl,⟨_,p,rfl,MP.stp m.o f.o⟩,Xs⟩
end Go.Proofs.YtmoeoppbmhfbpabGreatDoorJ
