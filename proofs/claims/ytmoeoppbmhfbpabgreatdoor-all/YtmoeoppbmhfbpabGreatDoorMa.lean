import Derived.Test.YtmoeoppbmhfbpabGreatDoorM
set_option maxHeartbeats 64000000
set_option maxRecDepth 100000
set_option linter.all false
open List
open List renaming length->Z
namespace Go.Proofs.YtmoeoppbmhfbpabGreatDoorJ
open Go.Abs Tryz
def sK (p:Tx):Tx:=p++[40,65,44,66,41,58,45]++p++[40,65,44,67,41,44]++p++[40,67,44,66,41,46]
def S7 (p e:Tx):Tx:=p++[40,65,44,66,41,58,45]++e++[40,65,44,66,41,46]
def Lj (x:AB):Bool:=Bw x==sK x.h.B
def Jf (x:AB):Bool:=match x.A with
 |[a]=>!decide (a.B=x.h.B)&&(Bw x==S7 x.h.B a.B)
 |_=>false
def rG {N:ol}{p}(h:p∈N):(N.map O).drop (N.idxOf p)=O p::(N.map O).drop (N.idxOf p+1):=by simp_all[CS,A1,FN]
def Zo (N l cs idn v)(i:Bk N l cs)(x c)(g:PI N x c)(k:WI N x)(a):ni 180 [Cq N idn l v cs,ag c] a λD σ'=>D=my (Lj x)/\W a σ':=by
 have d:=λa=>Kk N l cs idn v i x c g k a;have o:=k.short.1.1;obtain⟨j,s,id,b,u,rfl⟩:=g;have m:=CS j;have n:=rG j;have B:({data:=#[40,65,44,66,41,58,45]}:ByteArray)=bs [40,65,44,66,41,58,45]:=rfl;have y:({data:=#[40,65,44,67,41,44]}:ByteArray)=bs [40,65,44,67,41,44]:=rfl;have z:({data:=#[40,67,44,66,41,46]}:ByteArray)=bs [40,67,44,66,41,46]:=rfl;have f:V (∀t,t=sK x.h.B->(Bw x==t)=Lj x):=λt e=>by rw[e];rfl
 generalize N.idxOf x.h.B=q at m n d;generalize Bw x=E at d f;refine wl func180 ?_
 repeat' first|refine Z1 ?_|refine Z8 λyb ya=>?_|refine Z4 ?_;clear ya yb|refine Z2 ?_ ?_<;>intro h C<;>try exact Xp|refine Z5 ?_;refine Xi (d _) ?_;rintro _ _ ⟨rfl,p⟩;(have A:=p.B)|refine Z7 ?_|exact Zt|apply ya.o;clear ya yb
 exact⟨_,rfl,by rw[<-f.o _ rfl];simp[sK],Xs⟩
def RD {N:ol}{p q}(b:p∈N)(a:q∈N):(((N.idxOf p:Nat):Int)==((N.idxOf q:Nat):Int))=decide (p=q):=by
 by_cases h:p=q;subst h;simp
 have:N.idxOf p≠N.idxOf q:=λe=>h (by
  have d:=FN (CS b);grind)
 simp[h];omega
def nP (N l cs idn b)(I:Bk N l cs)(x c)(D:PI N x c)(s:WI N x)(g):ni 213 [Cq N idn l b cs,ag c] g λa6 σ'=>a6=my (Jf x)/\W g σ':=by
 have o:=λg=>Kk N l cs idn b I x c D s g;have hN:=I.nm;have a9:=s.short.1.1;have B:=s.short.2;have a7:=s.A;obtain⟨z,y,id,a5,q,rfl⟩:=D;have G:=CS z;have F:=rG z;have a3:=r.length Eh q;have h1:({data:=#[40,65,44,66,41,58,45]}:ByteArray)=bs [40,65,44,66,41,58,45]:=rfl;have h2:({data:=#[40,65,44,66,41,46]}:ByteArray)=bs [40,65,44,66,41,46]:=rfl;by_cases k:Z x.A=1
 ·let⟨a,u⟩:=length_eq_one_iff.1 k;have S:x.A[0]?=some a:=by rw[u];rfl
  let⟨A,K,E,R⟩:=Pu q S;have av:=(B a (by rw[u];simp)).1;have U:=CS A;have P:=rG A;have v:=RD A z;have a4:((Z x.A:Int) !=1)=false:=by rw[k];rfl
  simp only[KY,JH]at R;subst R;have j:V (Jf x=(!decide (a.B=x.h.B)&&(Bw x==S7 x.h.B a.B))):=by rw[V,Jf,u]
  have aw:0<Z x.A:=L;generalize N.idxOf x.h.B=p at G F o v;generalize N.idxOf a.B=T at U P v o a3;generalize Bw x=a2 at o j;generalize Z x.A=n at*
  clear k S u B q;refine wl func213 ?_;refine mu ?_;refine A2 (Q:=λe f d=>e= .normal/\f 22=my (decide (a.B=x.h.B))/\f 2=ptr g.B 0/\f 3=ptr (g.B+1) 0/\d=(g.new [lw idn N,sl b (Z l) cs]).new [my x.o,Y p,sl y (Z x.h.A) (A0 x.h.A),sl id n (my a.nt::Y T::sl K (Z a.A) (A0 a.A)::E)]) ?_ ?_
  ·refine bT [] [0,1,2,3,4,5,6,7,8,9,10,11,12,13,14,15] 0 (nv 16 65535) ?_;exact Aw AH ⟨rfl,AI,AI,AI,rfl⟩
  rintro e f d ⟨rfl,i,M,a0,rfl⟩;cases m:decide (a.B=x.h.B)
  ·have C:V (∀t,t=S7 x.h.B a.B->(a2==t)=Jf x):=λt e=>by rw[e,j.o,m];rfl
   rw[m]at i;clear j m v;refine De i ?_;refine mu ?_;refine A2 (Q:=λe f d=>e= .normal/\f 5=O x.h.B/\f 6=O a.B/\f 2=ptr g.B 0/\f 3=ptr (g.B+1) 0/\d=(g.new [lw idn N,sl b (Z l) cs]).new [my x.o,Y p,sl y (Z x.h.A) (A0 x.h.A),sl id n (my a.nt::Y T::sl K (Z a.A) (A0 a.A)::E)]) ?_ ?_
   ·refine Ar Ag (λ_=>True) [] [0,1,2,3,4,5,6,7,8,9,10] 0 (nv 11 2047) AH (λ_ _ _ h=>by cases h.1) ?_;intro yb ya;refine Z7 ?_;refine ya.o _ ?_;clear ya yb;exact Aw AH ⟨rfl,AI,AI,AI,AI,rfl⟩
   rintro e s2 a8 ⟨rfl,k5,k6,k2,k3,rfl⟩
   repeat' first|refine Z1 ?_|refine Z8 λyb ya=>?_|refine Z4 ?_;clear ya yb|refine Z2 ?_ ?_<;>intro h aa<;>try exact Xp|refine Z5 ?_;refine Xi (o _) ?_;rintro _ _ ⟨rfl,a1⟩;(have ak:=a1.B)|refine Z7 ?_|exact Zt|apply ya.o;clear ya yb
   exact⟨_,rfl,by rw[<-C.o _ rfl];simp[S7],Xs⟩
  have C:V (Jf x=false):=by rw[V,j.o,m];rfl
  rw[m]at i;clear j m;refine Cj i ?_;refine mu ?_;exact⟨_,rfl,by rw[C.o],Xs⟩
 have a4:((Z x.A:Int) !=1):=by simp;omega
 have j:V (Jf x=false):=by
  unfold Jf V;split
  ·rename_i a e;rw[e]at k;exact absurd rfl k
  rfl
 generalize N.idxOf x.h.B=p at G F o;generalize Z x.A=n at*
 clear k B q;refine wl func213 ?_;refine mu ?_;refine A2 (Q:=λe f d=>e= .normal/\f 22=my true/\f 2=ptr g.B 0/\f 3=ptr (g.B+1) 0/\d=(g.new [lw idn N,sl b (Z l) cs]).new [my x.o,Y p,sl y (Z x.h.A) (A0 x.h.A),sl id n a5]) ?_ ?_
 ·refine bT [] [0,1,2,3,4,5,6,7,8,9,10,11,12,13,14,15] 0 (nv 16 65535) ?_;exact Aw AH ⟨rfl,AI,AI,AI,rfl⟩
 rintro e f d ⟨rfl,i,M,a0,rfl⟩;refine Cj i ?_;refine mu ?_;exact⟨_,rfl,by rw[j.o],Xs⟩
def Ik (n:Nat)(q:Tx)(p:AB×Nat):Bool:=!decide (p.2=n)&&Fw q p.1
def E5 (l:n0)(n:Nat)(q:Tx):n0:=(l.zipIdx.filter (Ik n q)).map (·.1)
theorem Tf {l:n0}{n q i y}(h:l[i]?=some y):E5 (l.take (i+1)) n q=E5 (l.take i) n q++if Ik n q (y,i)=true then [y]else []:=by have a:=(BA.1 h).1;rw[E5];rw[AT,h,BN,zipIdx_append,IR,EU,CN,ER L];congr 1;grind
def UW (l n q i):∃a,E5 l n q=E5 (l.take i) n q++a:=by
 refine⟨(((l.drop i).zipIdx (Z (l.take i))).filter (Ik n q)).map (·.1),?_⟩
 conv=>lhs;rw[<-KD i l]
 unfold E5;rw[zipIdx_append,IR,EU,DY]
def Ez (l:n0)(n:Nat)(q:Tx):Option Tx:=match E5 l n q with
 |[y]=>if Jf y=true then (match y.A with|[a]=>some a.B|_=>none)else none
 |_=>none
def My (N:ol)(l:n0)(n:Nat)(q:Tx):Int:=match Ez l n q with
 |some e=>(N.idxOf e:Nat)
 |none=> -1
def UZ {y}(h:Jf y):∃a,y.A=[a]:=by grind[Jf]
def Uq (N ar l cs)(idn f n:Nat)(x)(u:BB N ar l)(R:r (PI N) l cs)(aa:l[n]?=some x)(j):ni 181 [Cq N idn l f cs,Y n] j λm σ'=>m=Y (My N l n x.h.B)/\W j σ':=by
 have bh:=r.length Ew R;have av:=u.gl.len;have hN:=u.gl.nm;have a9:=λy ac (A:PI N y ac) (hm:y∈l) j=>nP N l cs idn f ((u.gl.bkm R).bk av) y ac A (u.wi y hm) j;have bf:n<Z l:=(BA.1 aa).1;let⟨a4,ak,aj,bx,rx,bi,bg⟩:=Ih R aa;have HB:V (∀y∈l,Z y.A<=5/\y.h.B∈N/\∀a∈y.A,y.o=false->a.B∈N):=λy A=>⟨u.b5 y A,(u.gl.msr y A).mem,λa c ho=>((u.ru y A ho).A a c).mem⟩;clear u;refine wl func181 ?_;refine X ?_
 refine Ae (λad s σ'=>∃(i:Nat) (v:Int),ad=Z l-i/\i<=Z l/\s 1=Y n/\s 2=ptr j.B 0/\s 5=Y v/\s 9=sl f (Z l) cs/\s 10=Y (Z l)/\s 11=Y i/\W j σ'/\j.B<σ'.B/\σ'.C j.B=[lw idn N,sl f (Z l) cs]/\V ((E5 (l.take i) n x.h.B=[]/\v= -1)\/∃y a,E5 (l.take i) n x.h.B=[y]/\Jf y/\y.A=[a]/\v=((N.idxOf a.B:Nat):Int))) (Z l)
  ⟨0,-1,L,L,by simp[upd,AL],AG,AG,AG,AG,AG,Xs,AM,Ao,.inl ⟨rfl,rfl⟩⟩ ?_
 rintro ad s σ' ⟨i,v,rfl,hi,h1,h2,h5,h9,bb,ba,hK,be,a3,g⟩;have bc:=hK.B;by_cases ae:i<Z l;obtain⟨y,M⟩:=gq ae;have a6:=(AY M);obtain⟨af,aw,a8⟩:=HB.o y a6;obtain⟨ay,U,E,b,m,I,hd⟩:=Ih R M;have B:=λj=>a9 y _ (PI.of (ih:=U) (id:=E) ay I) a6 j;have d:=Tf (n:=n) (q:=x.h.B) M;have D:=UW l n x.h.B (i+1);have a5:=vP aw a4;have bm:=r.length Eh I;clear M;refine X ?_;refine A2 (Q:=λe k a2=>e= .normal/\k 35=my (!Ik n x.h.B (y,i))/\k 1=Y n/\k 2=ptr j.B 0/\k 5=Y v/\k 7=ptr σ'.B 0/\k 9=sl f (Z l) cs/\k 10=Y (Z l)/\k 11=Y i/\a2=(σ'.new [my false,Y 0,H,H]).put σ'.B [my y.o,Y (N.idxOf y.h.B:Nat),sl U (Z y.h.A) (A0 y.h.A),sl E (Z y.A) b]) ?_ ?_;have ax:((σ'.new [my false,Y 0,H,H]).put σ'.B [my y.o,Y (N.idxOf y.h.B:Nat),sl U (Z y.h.A) (A0 y.h.A),sl E (Z y.A) b]).C j.B=[lw idn N,sl f (Z l) cs]:=by rw[Aj L,Ah L,a3]
 by_cases G:i=n;have K:V (Ik n x.h.B (y,i)=false):=by simp[V,Ik,G]
 have a7:((i:Int)==(n:Int)):=ns G
 clear G d g;refine bT [] [0,1,2,3,4,5,6,7,8,9,10,11,12,13,14,15,16,17,18,19] 0 (nv 20 1048575) ?_;exact Aw AH ⟨rfl,by rw[K.o];simp[upd, *],AI,AI,AI,AI,AI,AI,AI,rfl⟩;have a7:((i:Int)==(n:Int))=false:=by simp;omega
 cases o:y.o
 ·have K:V ((!Ik n x.h.B (y,i))=!decide (y.h.B=x.h.B)):=by simp[V,Ik,Fw,o,G]
  rw[o]at ax;clear G d g o;refine Ar Ag (λ_=>True) [] [0,1,2,3,4,5,6,7,8,9,10,11,12,13,14,15,16,17,18,19] 0 (nv 20 1048575) AH (λ_ _ _ h=>by cases h.1) ?_;intro yb ya;refine Z3 ?_;refine ya.o _ ?_;clear ya yb;exact Aw AH ⟨rfl,by rw[K.o];simp[upd, *],AI,AI,AI,AI,AI,AI,AI,rfl⟩
 have K:V (Ik n x.h.B (y,i)=false):=by simp[V,Ik,Fw,o]
 rw[o]at ax;clear G d g o;refine Ar Ag (λ_=>True) [] [0,1,2,3,4,5,6,7,8,9,10,11,12,13,14,15,16,17,18,19] 0 (nv 20 1048575) AH (λ_ _ _ h=>by cases h.1) ?_;intro yb ya;refine Z3 ?_;refine ya.o _ ?_;clear ya yb;exact Aw AH ⟨rfl,by rw[K.o];simp[upd, *],AI,AI,AI,AI,AI,AI,AI,rfl⟩
 rintro e k a2 ⟨rfl,p,g1,g2,g5,g7,g9,ah,ai,rfl⟩;clear h1 h2 h5 h9 bb ba a5;cases t:Ik n x.h.B (y,i)
 ·rw[t]at p d;have T:V ((E5 (l.take (i+1)) n x.h.B=[]/\v= -1)\/∃y a,E5 (l.take (i+1)) n x.h.B=[y]/\Jf y=true/\y.A=[a]/\v=((N.idxOf a.B:Nat):Int)):=by
   rw[V,d];simpa using g.o
  clear d D g t B;refine Cj p ?_;refine X ?_;refine⟨Z l-(i+1),L,i+1,v,?_⟩;exact m9 T
 rw[t]at p d;simp only[if_true]at d;have o:y.o=false:=by
  unfold Ik Fw at t;simp only[BM,FJ]at t;exact t.2.1
 refine De p ?_;by_cases P:v= -1;have a1:E5 (l.take i) n x.h.B=[]:=by
  rcases g.o with⟨e,-⟩|⟨y,a,-,-,-,e⟩;exact e;omega
 rw[a1,FE]at d;subst P;cases C:Jf y with
 |false=>
  have F:V (My N l n x.h.B= -1):=by
   obtain⟨m,e⟩:=D;rw[d]at e;unfold My Ez V;rw[e];cases m with
   |nil=>simp[C]
   |cons a m=>rfl
  rw[C,o]at B;clear d D g t C a1;refine m0 ?_;intro yb ya;refine Xi (B _) ?_;rintro _ _ ⟨rfl,S⟩;(have ab:=S.B);refine X ?_;exact⟨_,rfl,by rw[F.o],Xs⟩
 |true=>
  obtain⟨a,c⟩:=UZ C;have T:V ((E5 (l.take (i+1)) n x.h.B=[]/\((N.idxOf a.B:Nat):Int)= -1)\/∃y b,E5 (l.take (i+1)) n x.h.B=[y]/\Jf y=true/\y.A=[b]/\((N.idxOf a.B:Nat):Int)=((N.idxOf b.B:Nat):Int)):=.inr ⟨y,a,d,C,c,rfl⟩;obtain⟨bn,ia,ra,a0⟩:=Pu I (show y.A[0]?=some a by rw[c];rfl);simp only[KY,JH]at a0;have bo:0<Z y.A:=by rw[c];simp
  rw[C]at B;rw[o]at B;subst a0;clear d D g t C a1 c I;refine m0 ?_;intro yb ya;refine Xi (B _) ?_;rintro _ _ ⟨rfl,S⟩;(have ab:=S.B;have ao:=S.C;simp only[Ac,Aa]at ab ao);refine X ?_;refine⟨Z l-(i+1),L,i+1,((N.idxOf a.B:Nat):Int),?_⟩;exact m9 T
 have bd:(v != -1)=true:=nn P;have F:V (My N l n x.h.B= -1):=by
  rcases g.o with⟨-,e⟩|⟨z,a,e,-,-,-⟩;exact absurd e P;obtain⟨m,e2⟩:=D;rw[d,e]at e2;unfold My Ez V;rw[e2];rfl
 clear d D g t P B;refine X ?_;exact⟨_,rfl,by rw[F.o],Xs⟩
 obtain rfl:i=Z l:=L;have F:V (My N l n x.h.B=v):=by
  have:=g.o;rw[AS]at this;unfold My Ez V;obtain⟨e,rfl⟩|⟨y,a,e,e2,e3,rfl⟩:=this;rw[e];rw[e];simp only[e2,if_true,e3]
 clear g;refine X ?_
 exact⟨_,rfl,by rw[F.o]⟩
def PS.down {lo a p b x n d}(h:PS lo b x n d)(f:a<=lo)(e:p<lo)(c):PS a (b.put p c) x n d:=by obtain h|⟨o,g,i,e2,j,k,l,q,m⟩:=h.put e c;exact .inl h;exact .inr ⟨o,g,i,e2,j,k,l,L,m⟩
def xP (b c)(hc:T1 false b c)(B:LP b)(d):
  ni 93 [ag c] d λx σ'=>(∃ih e xs,x=ag [my false,Y (Fa b).h.p,sl ih (Z (Fa b).h.ts) (Ad (Fa b).h.ts),e]/\PS d.B σ' e (Z (Fa b).A) xs/\r Sq (Fa b).A xs)/\W d σ':=by
 have R:=λd=>Mk b c hc B d;have bb:=bJ B;have bo:=B.bl;obtain⟨ih,id,a1,rfl,hb⟩:=hc;have bn:=r.length Hk hb;unfold Fa;generalize Fc b=l at R bb;have a8:=λf d=>Oy l f b.h.p ih b.h.ts L (ny B.h3) d;have a9:=λf (a:Lit) T (ha:a∈b.A) d=>Oy l f a.a.p T a.a.ts L (ny (B.b3 a ha)) d;refine wl func93 ?_;refine mt R ?_;rintro yb ya _ _ ⟨⟨f,rfl⟩,M⟩;have K:=M.C;have ao:=M.B;simp only[Aa]at ao;refine X ?_;rename_i q;have I:q.C d.B=[my false,Y b.h.p,X1 ih b.h.ts,sl id (Z b.A) a1]:=by
  rw[K _ AM,Ah AM,Ao]
 have G:q.C (d.B+1)=[my false,Y 0,H,H]:=by
  rw[K _ AM,Be (by rw[Aa];omega) (by rw[Aa];omega)]
 have C:W d q:=Xs;clear K M;refine A2 (Q:=λa2 s σ'=>a2= .normal/\∃o n:Nat,s 1=ptr d.B 0/\s 2=ptr (d.B+1) 0/\s 3=X2 f l/\s 4=ptr o 0/\d.B+1<o/\o<σ'.B/\σ'.C d.B=[my false,Y b.h.p,X1 ih b.h.ts,sl id (Z b.A) a1]/\σ'.C (d.B+1)=[my false,Y 0,H,H]/\σ'.C o=[my false,Y b.h.p,sl n (Z b.h.ts) (Ad (b.h.ts.map (G8 l))),H]/\W d σ') ?_ ?_
 ·refine bT [8] [0,1,2,3,4] 4 (nv 9 31) ?_;have a3:=λd=>a8 f d;refine D8 (rs:=[5,7]) AH nk ?_;intro ae A;simp only[BD,EK,DZ]at A;obtain rfl|rfl:=A
  ·refine Am ?_;intro yb ya;refine Z3 ?_;refine AF.mono (a3 _) ?_;rintro _ g ⟨⟨n,rfl⟩,j⟩;have u:=j.C;have an:=j.B;refine ux ?_;refine D8 (rs:=[6,7]) AH nk ?_;intro ae A;simp only[BD,EK,DZ]at A;obtain rfl|rfl:=A
   ·refine ta ?_;refine rl 7 ?_;refine rl 8 ?_;refine Aw AH ⟨rfl,g.B,n,AG,AG,AG,AG,L,BJ,?_,?_,Ak,?_⟩
    ·rw[Aj L,Ah L,u _ L,I]
    ·rw[Aj L,Ah L,u _ L,G]
    exact ((C.trans j).new _).put L _
   refine ta ?_;refine rl 6 ?_;refine rl 8 ?_;refine Aw AH ⟨rfl,g.B,n,AG,AG,AG,AG,L,BJ,?_,?_,Ak,?_⟩
   ·rw[Aj L,Ah L,u _ L,I]
   ·rw[Aj L,Ah L,u _ L,G]
   exact ((C.trans j).new _).put L _
  refine ta ?_;refine tn 5 a3 ?_;rintro yb ya _ g ⟨⟨n,rfl⟩,j⟩;have u:=j.C;have an:=j.B;simp only[Aa]at an;refine ux ?_;refine rl 6 ?_;refine rl 8 ?_;refine Aw AH ⟨rfl,q.B,n,AG,AG,AG,AG,L,BJ,?_,?_,Ak,?_⟩
  ·rw[Aj L,u _ (by rw[Aa];omega),Ah L,I]
  ·rw[Aj L,u _ (by rw[Aa];omega),Ah L,G]
  exact ((C.new _).trans j).put L _
 rintro a2 s g ⟨rfl,o,n,h1,a4,a5,ab,bm,bh,ba,z,S,t⟩;have N:=t.B;clear C I G ao a8;refine X ?_
 refine wn [2,3,4,18,19] 20 (Z b.A) (λk s σ'=>∃(e:AV) (xs:oh),W d σ'/\g.B<=σ'.B/\σ'.C (d.B+1)=[my false,Y 0,H,H]/\σ'.C o=[my false,Y b.h.p,sl n (Z b.h.ts) (Ad (b.h.ts.map (G8 l))),e]/\PS g.B σ' e k xs/\V (r Sq ((b.A.take k).map (JS l)) xs)) ⟨H,[],t,AU _,z,S,.inl ⟨rfl,rfl,rfl⟩,rfl⟩ ?_
 clear h1 a4 a5 ab ba z S t N;rintro k s σ' _ _ _ ⟨e,xs,t,bi,z,S,v,i⟩;have N:=t.B;have be:=v.flat;by_cases ac:k<Z b.A
 ·obtain⟨a,F⟩:=gq ac;obtain⟨T,rr,hd⟩:=H8 hb F;have ad:=λd=>a9 f a T (AY F) d;have HX:V (∀y,r Sq ((b.A.take (k+1)).map (JS l)) (xs++[my a.neg,Y a.a.p,sl y (Z a.a.ts) (Ad (a.a.ts.map (G8 l)))])):=λy=>by
   rw[AT,F,BN,EU];exact r.append i.o (r.single ⟨y,by simp[JS,lN]⟩)
  clear F i a9;refine mt ad ?_;rintro yb ya _ _ ⟨⟨y,rfl⟩,m⟩;have U:=m.C;have a0:=m.B;simp only[Aa,Ac]at a0 U;refine nh ?_;intro yb ya;rename_i ah;have bg:=((t.new [my false,Y 0,H]).put t.B _).trans m;refine wA (lo:=g.B) (σ0:=d) (by exact G5) (by rfl) (by rfl) (by rfl) L L (by simp only[Az,Ac,Aa];omega) L (((bg.new _).put L _).lay 1) (v.keep ((((((W.refl _).new _).put (AU _) _).trans m).new _).put L _|>.lay 1)) ?_;intro X' aa P bc ap ak;simp only[Az,Ac,Aa]at bc;have af:∀p,p<g.B->aa.C p=σ'.C p:=λp hp=>by rw[ap p hp,H6,Aj L,Ah L,U _ L,Aj L,Ah L]
  obtain⟨og,cg,rfl,-⟩:=P.gx L;refine X ?_;refine⟨gx og (k+1) cg,xs++[my a.neg,Y a.a.p,sl y (Z a.a.ts) (Ad (a.a.ts.map (G8 l)))],?_⟩
  ((repeat' refine Zi ?_ ?_)<;>first|exact Xq|exact (ak.put L _)|exact (P.put L _)|exact (HX.o y)|exact Xs)
 obtain rfl:k=Z b.A:=L;rw[AS]at i;have HP:V (PS d.B ((σ'.put (d.B+1) [my false,Y b.h.p,sl n (Z b.h.ts) (Ad (b.h.ts.map (G8 l))),e])) e (Z b.A) xs):=v.down L L _;have bf:e=H\/∃D E,e=gx D (Z b.A) E:=by
  obtain⟨h,-⟩|⟨D,E,h,-⟩:=v
  ·exact .inl h
  exact .inr ⟨D,E,h⟩
 obtain rfl|⟨D,E,rfl⟩:=bf
 all_goals
  refine X ?_;exact⟨_,rfl,⟨n,_,xs,by simp[lN];rfl,nn HP.o,nn i.o⟩,t.put L _⟩
def vO {α b:Type}[BEq α][LawfulBEq α][BEq b][LawfulBEq b]{f:α->b}{t}:∀{l:List α},(∀u∈l,f u=f t->u=t)->(l.map f).idxOf (f t)=l.idxOf t
 |[],_=>rfl
 |a::l,h=>by rw[CC,JZ,JZ];by_cases e:a=t;subst e;simp;have e2:f a≠f t:=λe2=>e (h a nk e2);rw[show (f a==f t)=false by simpa using e2,show (a==t)=false by simpa using e,vO λu c=>h u (ns c)]
def e2 (t:Tx):Int:=(Aq t).2
theorem TB {t u}(a:UT t)(b:UT u)(c:Ab t)(h2:Ab u)(h:e2 t=e2 u):t=u:=DJ.inj t u a b (GB (by grind[Cb]) h)
def mS:∀{c acc:ol},(∀t∈acc,UT t/\Ab t)->(∀t∈c,UT t)->(c.map Aq).foldl vF (acc.map e2)=(Fu acc c).map e2
 |[],_,_,_=>rfl
 |t::c,acc,d,j=>by
  have i:=j t nk;have e:vF (acc.map e2) (Aq t)=(Er acc t).map e2:=by grind[vF,Er,Cb,Ab,TB,e2]
  rw[CC,FW,e];show _=(Fu (Er acc t) c).map e2;refine mS (λu a=>?_) λu a=>j u (ns a);rw[Er]at a;grind
def UX {N x}(q:x.o=false)(k:Dc x)(j:∀a∈Af x,∀t∈a.A,UT t):Fa (Ce N x)=Ce N (ren x):=by
 have i:Af x=x.h::x.A:=by grind[Af]
 have n:Fc (Ce N x)=(Au x).map e2:=by
  have e:(Hs (Ce N x)).flatMap (·.ts)=((Af x).flatMap (·.A)).map Aq:=by simp_all[Hs,Ce,Eg,E6,JG,LH]
  rw[Fc,Cs,Au];rw[e];refine mS (acc:=[]) (λt d=>gp) λt d=>?_;grind
 have l:∀v∈Au x,UT v/\Ab v:=λv b=>by obtain⟨C,-⟩:=K7 ((Af x).flatMap (·.A)) [] (λv b=>gp) GN;let⟨B,g⟩:=C v b;grind
 have f:∀a∈Af x,lN (Fc (Ce N x)) (Eg N a)=Eg N (Br (Au x) a):=λa c=>by
  unfold lN Eg Br;simp only[BH];congr 1;refine CG λt d=>?_;have p:=j a c t d;show G8 (Fc (Ce N x)) (Aq t)=Aq (C6 (Au x) t);rw[jq p.1 (λb=>On k c d b)];rw[G8];rw[Cb];congr 1;by_cases b:Ab t=true;have m:t∈Au x:=No _ _ _ (.inr ⟨EX.2 ⟨a,c,d⟩,b⟩);have s:(Aq t).2∈Fc (Ce N x):=by rw[n];exact AN.2 ⟨t,m,rfl⟩
  have z:(Fc (Ce N x)).idxOf (Aq t).2=(Au x).idxOf t:=by rw[n];exact vO λu o e=>TB (l u o).1 p (l u o).2 b e
  rw[if_pos b,if_pos b,lZ,if_pos s,Bv,if_pos m,z];rw[if_neg b,if_neg b]
 rw[Fa];have y:lN (Fc (Ce N x)) (Ce N x).h=Eg N (Br (Au x) x.h):=f x.h (gp);have A:(Ce N x).A.map (JS (Fc (Ce N x)))=(x.A.map (Br (Au x))).map (E6 N):=by show (x.A.map (E6 N)).map _=_;rw[BH,BH];refine CG λa c=>?_;show (⟨a.nt,lN (Fc (Ce N x)) (Eg N a)⟩:Lit)=⟨a.nt,Eg N (Br (Au x) a)⟩;grind
 rw[y,A];rfl
def TC {y z}(c:Dc y)(b:Dc z)(h:Bz y++[46]=Bz z++[46]):y=z:=by have e:=append_cancel_right h;have a:=(Jl c).1;rw[e,(Jl b).1]at a;exact a.symm
def Cn (p q:Tx):AB:=⟨false,⟨false,p,[[65],[66]]⟩,[⟨false,q,[[65],[67]]⟩,⟨false,p,[[67],[66]]⟩]⟩
def xA (p e:Tx):AB:=⟨false,⟨false,p,[[65],[66]]⟩,[⟨false,e,[[65],[66]]⟩]⟩
def TA {b}(h:Bs b.toNat):Mm [b]:=⟨nk,λc a=>gp⟩
def MV {p}(h:Jy p){n b c}(e:Bs b.toNat)(d:Bs c.toNat):En ⟨n,p,[[b],[c]]⟩:=⟨h,nk,nk,λt a=>by
 simp only[BD,EK,DZ]at a;obtain rfl|rfl:=a;exact TA e
 exact TA d⟩
def ky {p q}(b:Jy p)(d:Jy q):Dc (Cn p q):=⟨b,(λe=>by cases e),λ_=>⟨MV b rfl rfl,rfl,by simp[Cn],λa c=>by
 simp only[Cn,BD,EK,DZ]at c;obtain rfl|rfl:=c;exact MV d rfl rfl
 exact MV b rfl rfl⟩⟩
def ki {p q}(c:Jy p)(d:Jy q):Dc (xA p q):=⟨c,(λe=>by cases e),λ_=>⟨MV c rfl rfl,rfl,by simp[xA],λa b=>by
 simp only[xA,BD,EK,DZ]at b;subst b
 exact MV d rfl rfl⟩⟩
def oS {N x}(a:Dc x)(b:WI N x)(h:Lj x):ren x=Cn x.h.B x.h.B:=by rw[Lj]at h;rw[DO,Kq a]at h;exact TC (Ky a b) (ky a.1 a.1) (by rw[h];simp[sK,Bz,Cn,D1,Bh,Bp,Ch,Cl])
def YF {N x a}(b:Dc x)(e:WI N x)(c:x.A=[a])(h:Jf x):ren x=xA x.h.B a.B:=by
 have d:x.o=false:=by
  cases d:x.o
  ·rfl
  rw[(b.2.1 d).2.2]at c;cases c
 rw[Jf]at h;rw[c]at h;simp only[BM,DO]at h;rw[Kq b]at h;exact TC (Ky b e) (ki b.1 ((b.2.2 d).2.2.2 a (gp)).1) (by rw[h.2];simp[S7,Bz,xA,D1,Bh,Bp,Ch,Cl])
def SU {N b}(a:b.B∈N)(e:∀t∈b.A,UT t):N7 N b.nt (Eg N b)=b:=by
 let⟨n,p,d⟩:=b;rw[N7,Eg];have c:=CS a;simp only[DK,AK c,FN,MG,BH];congr 1
 conv=>rhs;rw[<-IE d]
 exact CG λt f=>(e t f).dec.1
def ZJ {N x}(d:x.o=false)(g:x.h.nt=false)(h:∀a∈Af x,a.B∈N/\∀t∈a.A,UT t):Cz N (Ce N x)=x:=by
 let⟨o,b,e⟩:=x;obtain rfl:o=false:=d;have f:∀a,a=b\/a∈e->a∈Af ⟨false,b,e⟩:=λa c=>by grind[Af]
 have i:=h b (f b (.inl rfl));have j:=SU i.1 i.2;have g:=g;rw[g]at j;rw[Cz,Ce];simp only[j,BH];congr 1
 conv=>rhs;rw[<-IE e]
 exact CG λa c=>SU (h a (f a (.inr c))).1 (h a (f a (.inr c))).2
def pR {k:Nat}(h:k<26)(b)(a:b=Im k):UT [b]:=a▸(pS h).1
def rO {p q}:∀a∈Af (Cn p q),Z a.A=2/\(a.B=p\/a.B=q)/\∀t∈a.A,UT t:=by have e:=pR (k:=0) nr 65 rfl;have c:=pR (k:=1) nr 66 rfl;have d:=pR (k:=2) nr 67 rfl;intro a b;simp only[Af,Cn,EI,if_false,singleton_append,BD,EK,DZ]at b;grind
def WE {N ar p q}(o:p∈N)(g:q∈N)(m:KO p)(x:KO q)(y:ar p=2)(aq:ar q=2):FB N ar (Ce N (Cn p q))/\Cz N (Ce N (Cn p q))=Cn p q:=by
 have f:∀a∈Af (Cn p q),a.B∈N/\KO a.B/\ar a.B=2:=λa b=>by
  rcases (rO a b).2.1 with e|e<;>rw[e];exact⟨o,m,y⟩;exact⟨g,x,aq⟩
 have c:∀a∈Af (Cn p q),IF N ar (Eg N a):=λa b=>by
  let⟨d,z,s⟩:=rO a b;let⟨A,i,v⟩:=f a b
  exact⟨⟨a.B,A,rfl,i,by grind[Eg]⟩,by grind[Eg],by grind[Eg],λt n=>by
   obtain⟨u,k,rfl⟩:=AN.1 n
   exact⟨u,s u k,rfl⟩⟩
 refine⟨⟨c _ (Ap (.inl ⟨rfl,rfl⟩)),λl j=>?_⟩,ZJ rfl rfl λa b=>⟨(f a b).1,(rO a b).2.2⟩⟩;obtain⟨a,b,rfl⟩:=AN.1 j;exact c a (Ap (.inr b))
def Ou {N ar l}(a:BB N ar l){i:Nat}{x}(g:l[i]?=some x)(f:Lj x):x.o=false/\Z x.A=2/\x.h.B∈N/\KO x.h.B/\ar x.h.B=2:=by
 have b:=AY g;have c:=oS (a.wit x b) (a.wi x b) f;have d:=congrArg AB.o c;have k:Z x.A=2:=by have:=congrArg (λy=>Z y.A) c;simpa[ren,Cn]using this
 have j:Z x.h.A=2:=by have:=congrArg (λy=>Z y.h.A) c;simpa[ren,Cn,Br]using this
 have e:=(a.ru x b d).h;exact⟨d,k,e.mem,⟨(a.wit x b).1,(a.gl.msr x b).hpl⟩,by rw[<-e.len,j]⟩
def Wx {N ar l}(d:BB N ar l){i p e}(h:Ez l i p=some e):e∈N/\KO e/\ar e=2:=by
 rw[Ez]at h;split at h
 case h_2=>cases h
 rename_i y o;split at h
 case isFalse=>cases h
 rename_i v;split at h
 case h_2=>cases h
 rename_i a g;cases h;have q:y∈E5 l i p:=gp
 obtain⟨⟨z,j⟩,u,rfl⟩:=AN.1 q;let⟨s,k⟩:=BP.1 u;have c:=LB s;have n:z.o=false:=by grind[Ik,Fw]
 have f:a∈z.A:=gp
 have x:=YF (d.wit z c) (d.wi z c) g v;have t:Z a.A=2:=by have:=congrArg (λy:AB=>y.A.map λb=>Z b.A) x;simpa[ren,xA,Br,show z.A=[a]from g]using this
 have m:=(d.ru z c n).A a f;exact⟨m.mem,⟨((d.wit z c).2.2 n).2.2.2 a f|>.1,((d.gl.msr z c).at_ a (Ap (.inr f))).2.1⟩,by rw[<-m.len,t]⟩
def Yk (N:ol)(l:n0)(i:Nat):Bool:=match l[i]? with
 |some x=>Lj x&&(match Ez l i x.h.B with
  |some e=>C5 N l (rpl i [Cn x.h.B e] l)
  |none=>false)
 |none=>false
def MP (N:ol)(l:n0)(idn:Nat)(x:AV)(b:Bool):Prop:=
 (b=false/\∀i,i<Z l->Yk N l i=false)\/(b=true/\∃i y e,l[i]?=some y/\Lj y/\Ez l i y.h.B=some e/\Yk N l i/\(∀j,j<i->Yk N l j=false)/\∃id a,x=Cq N idn (rpl i [Cn y.h.B e] l) id a/\r (PI N) (rpl i [Cn y.h.B e] l) a)
def rP {N ar l}(b:BB N ar l){i x e}(d:l[i]?=some x)(j:Lj x)(k:Ez l i x.h.B=some e):MN N ar [Cn x.h.B e]:=λy a _=>by simp at a;subst a;obtain⟨-,-,q,m,o⟩:=Ou b d j;let⟨n,c,p⟩:=Wx b k;let⟨f,g⟩:=WE q n m c o p;exact⟨_,g.symm,f,by simp[Ce,Cn]⟩
def yH {N ar l}(c:BB N ar l){i x e}(f:l[i]?=some x)(b:Lj x)(m:Ez l i x.h.B=some e){ih ib xs}(h:r Sq (Fa (Ce N x)).A xs):PI N (Cn x.h.B e) [my false,Y (Fa (Ce N x)).h.p,sl ih (Z (Fa (Ce N x)).h.ts) (Ad (Fa (Ce N x)).h.ts),sl ib 2 (xs.set 1 (Y (N.idxOf e:Nat)))]:=by have d:=AY f;obtain⟨j,-,g,u,v⟩:=Ou c f b;let⟨o,z,y⟩:=Wx c m;rw[UX j (c.wit x d) (λa b=>((c.gl.msr x d).at_ a b).2.2),oS (c.wit x d) (c.wi x d) b]at h⊢;refine pE g (λa b=>?_) ?_;simp only[Cn,BD,EK,DZ]at b;obtain rfl|rfl:=b;exact o;exact g;obtain⟨q,s,⟨n,rfl⟩,⟨t,k,⟨p,rfl⟩,e2,rfl⟩,rfl⟩:=h;obtain rfl:k=[]:=e2;exact⟨ih,ib,_,rfl,⟨_,_,⟨n,rfl⟩,⟨_,_,⟨p,rfl⟩,rfl,rfl⟩,rfl⟩⟩
def Um (N ar l cs idn s)(hR:BB N ar l)(G:r (PI N) l cs)(d):
  ni 128 [Cq N idn l s cs] d λaa σ'=>(∃x b,aa=tp [x,my b]/\MP N l idn x b/\pB x)/\W d σ':=by
 have hG:=hR.gl;have da:=r.length Ew G;have bn:=hG.len;have cj:=(hG.bkm G).bk bn;have HB:V (JM N l cs):=hG.bkm G;have c5:V (r (PJ N) l cs):=Qv G λx hx c hc=>.inl ⟨hc,hG.msr x hx⟩;have I:V (BB N ar l):=hR;have b1:=λx c (hx:PI N x c) (hm:x∈l) d=>Zo N l cs idn s cj x c hx (hR.wi x hm) d;have bv:=λi x (hx:l[i]?=some x) d=>Uq N ar l cs idn s i x hR G hx d;clear hG hR cj;refine wl func128 ?_;refine X ?_
 refine wn [1,2,12,13] 14 (Z l) (λi bk σ'=>W d σ'/\d.B+1<σ'.B/\σ'.C d.B=[lw idn N,sl s (Z l) cs]/\σ'.C (d.B+1)=[H,H]/\V (∀j,j<i->Yk N l j=false)) ⟨Xs,AM,by rw[Ah AM,Ao],by first|exact Ao|simp[Ao],λj h=>L⟩ ?_
 rintro i bk σ' _ ⟨h1,h2,cy,cx⟩ cw ⟨hK,c9,b6,b5,T⟩;have c8:=hK.B;by_cases cd:i<Z l;obtain⟨x,q⟩:=gq cd;have ay:=(AY q);obtain⟨cc,ih,av,b,aa,br,hd⟩:=Ih G q;have db:=r.length Eh br;have a4:=PI.of (ih:=ih) (id:=av) cc br;have S:=λd=>b1 x _ a4 ay d;have F:=λd=>bv i x q d;have R:V (Yk N l i=false->∀j,j<i+1->Yk N l j=false):=λhf j hj=>by
  obtain h|h:=FT j i;exact T.o j h;rw[show j=i by omega,hf]
 have z:Yk N l i=(Lj x&&(match Ez l i x.h.B with|some e=>C5 N l (rpl i [Cn x.h.B e] l)|none=>false)):=by unfold Yk;rw[q]
 cases u:Lj x
 ·have a7:V (∀j,j<i+1->Yk N l j=false):=R.o (by rw[z,u];rfl);rw[u]at S;clear z R T u F q a4;refine m0 ?_;intro yb ya;refine Xi (S _) ?_;rintro _ _ ⟨rfl,v⟩;(have ae:=v.B;have y:=v.C;simp only[Ac,Aa]at ae y);refine X ?_;skip;exact m9 a7
 rw[u]at S z;cases B:Ez l i x.h.B with
 |none=>
  have a7:V (∀j,j<i+1->Yk N l j=false):=R.o (by rw[z,B];rfl);have e1:My N l i x.h.B= -1:=by unfold My;rw[B]
  rw[e1]at F;clear z R T u B e1 q a4
  (repeat (refine m0 ?_;intro yb ya;(first|(refine Xi (S _) ?_;rintro _ _ ⟨rfl,v⟩;(have ae:=v.B;have y:=v.C;simp only[Ac,Aa]at ae y))|(refine Xi (F _) ?_;rintro _ _ ⟨rfl,P⟩;(have be:=P.B;have ah:=P.C)))));refine X ?_
  skip;exact m9 a7
 |some e=>
  rw[B]at z;simp only[FV]at z;have e1:My N l i x.h.B=((N.idxOf e:Nat):Int):=by unfold My;rw[B]
  rw[e1]at F;have a1:=(Ou I.o q u).1;have ce:=(Ou I.o q u).2.1;have ab:=λ(ih ib:Nat) (t:oh) (h:r Sq (Fa (Ce N x)).A t)=>yH I.o q u B (ih:=ih) (ib:=ib) h;have ba:=rP I.o q u B;have HC:V (∀id g C,Yk N l i=true->C=Cq N idn (rpl i [Cn x.h.B e] l) id g->r (PI N) (rpl i [Cn x.h.B e] l) g->MP N l idn C true):=λid g C ho bf bq=>.inr ⟨rfl,i,x,e,q,u,B,ho,T.o,id,g,bf,bq⟩;have bz:=OV a4;rw[a1]at bz;have a8:=λd=>xP (Ce N x) _ bz (sV (I.o.ru x ay a1) (I.o.gl.msr x ay) a1 (I.o.wit x ay)).r52 d;have b0:Z (Fa (Ce N x)).A=2:=by simp[Fa,Ce,ce]
  have a3:=λco aw (h:r (PJ N) [Cn x.h.B e] co) d=>Nb (E:=PJ N) SH N l [Cn x.h.B e] cs co idn s aw i c5.o h L nk d;have K:=λg ao (h:r (PJ N) (rpl i [Cn x.h.B e] l) g) d=>Ib N l (rpl i [Cn x.h.B e] l) cs g idn s ao HB.o (SO I.o ba nk i h) d;have M:V (∀g,C5 N l (rpl i [Cn x.h.B e] l)=true->r (PJ N) (rpl i [Cn x.h.B e] l) g->r (PI N) (rpl i [Cn x.h.B e] l) g):=λg hb h=>by
   unfold C5 at hb;simp only[BM]at hb;exact Qv h λbl hy c hc=>(hc.pi ((Ys hb.1).2 bl hy)).1
  have b4:V (∀c,PI N (Cn x.h.B e) c->PJ N (Cn x.h.B e) c):=λc hc=>.inl ⟨hc,by
   obtain⟨aa,h1,h2,h3⟩:=ba (Cn x.h.B e) nk (by simp[Cn])
   rw[h1];exact h2.msr L⟩
  rw[<-z]at K M;simp only[KZ]at a3;generalize Cn x.h.B e=af at ab ba HC a3 K M b4;generalize rpl i [af] l=ad at HC a3 K M;generalize Fa (Ce N x)=m at ab a8 b0;rw[b0]at a8;have cm:V _:=ab;rw[a1]at S hd;clear z T u B e1 q a4 ab ba bz b0 ce
  (repeat (refine m0 ?_;intro yb ya;(first|(refine Xi (S _) ?_;rintro _ _ ⟨rfl,v⟩;(have ae:=v.B;have y:=v.C;simp only[Ac,Aa]at ae y))|(refine Xi (F _) ?_;rintro _ _ ⟨rfl,P⟩;(have be:=P.B;have ah:=P.C)))));refine nh ?_;intro yb ya
  refine AF.mono (a8 _) ?_;rintro _ a ⟨⟨n,bx,t,rfl,cf,ci⟩,a9⟩;obtain⟨o,f,rfl,cq,ct,bo,cu,b8⟩:=cf.gx L;have cn:=a9.B;have ak:=a9.C;refine Z3 ?_;refine ya.o _ _ ?_;clear ya yb;refine Iy ?_;have bw:W d ((a.new [my false,Y 0,H,H]).put a.B [my false,Y m.h.p,X1 n m.h.ts,gx o 2 f]):=((((((hK.new _).put hK.B _).trans v).trans P).trans a9).new _).put L _;have ca:((a.new [my false,Y 0,H,H]).put a.B [my false,Y m.h.p,X1 n m.h.ts,gx o 2 f]).C o=a.C o:=by rw[Aj L,Ah L]
  have bg:((a.new [my false,Y 0,H,H]).put a.B [my false,Y m.h.p,X1 n m.h.ts,gx o 2 f]).C a.B=[my false,Y m.h.p,X1 n m.h.ts,gx o 2 f]:=Ak;have b3:((a.new [my false,Y 0,H,H]).put a.B [my false,Y m.h.p,X1 n m.h.ts,gx o 2 f]).C d.B=[lw idn N,sl s (Z l) cs]:=by
   rw[Aj L,Ah L,ak _ L,ah _ L,y _ L,Aj L,Ah L,b6]
  have b2:((a.new [my false,Y 0,H,H]).put a.B [my false,Y m.h.p,X1 n m.h.ts,gx o 2 f]).C (d.B+1)=[H,H]:=by
   rw[Aj L,Ah L,ak _ L,ah _ L,y _ L,Aj L,Ah L,b5]
  have cb:a.B<((a.new [my false,Y 0,H,H]).put a.B [my false,Y m.h.p,X1 n m.h.ts,gx o 2 f]).B:=BJ;generalize (a.new [my false,Y 0,H,H]).put a.B [my false,Y m.h.p,X1 n m.h.ts,gx o 2 f]=A at bw ca bg b3 b2 cb;have bp:1<Z (a.C o):=L;have bh:o≠a.B:=L;have bm:o≠d.B:=L;have bi:o≠d.B+1:=L;refine A2 (Q:=λe' D ac=>e'= .normal/\D 1=ptr d.B 0/\D 2=ptr (d.B+1) 0/\D 4=Y i/\D 7=ptr a.B 0/\D 12=sl s (Z l) cs/\D 13=Y (Z l)/\D 14=Y i/\ac=A.put o ((a.C o).set 1 (Y (N.idxOf e:Nat)))) ?_ ?_;exact m7;rintro e' D ac ⟨rfl,g1,g2,g4,g7,c1,c2,c3,rfl⟩;have a0:(A.put o ((a.C o).set 1 (Y (N.idxOf e:Nat)))).C a.B=[my false,Y m.h.p,X1 n m.h.ts,gx o 2 f]:=by rw[Dz bh.symm,bg]
  refine Zk (o:=o) (p:=a.B) (j:=3) (k:=6) (by simp only[Ac];omega) (by simp only[Ac];omega) bh a0 rfl (by rw[Ak,LC];omega) ?_;have az:((A.put o ((a.C o).set 1 (Y (N.idxOf e:Nat)))).C o).take 6=t.set 1 (Y (N.idxOf e:Nat)):=by rw[Ak,take_set,b8]
  rw[az];have ch:W d (((A.put o ((a.C o).set 1 (Y (N.idxOf e:Nat)))).put o []).put a.B ([my false,Y m.h.p,X1 n m.h.ts,gx o 2 f].set 3 (sl 0 2 (t.set 1 (Y (N.idxOf e:Nat)))))):=((bw.put L _).put L _).put L _;have b9:(((A.put o ((a.C o).set 1 (Y (N.idxOf e:Nat)))).put o []).put a.B ([my false,Y m.h.p,X1 n m.h.ts,gx o 2 f].set 3 (sl 0 2 (t.set 1 (Y (N.idxOf e:Nat)))))).C a.B=[my false,Y m.h.p,X1 n m.h.ts,sl 0 2 (t.set 1 (Y (N.idxOf e:Nat)))]:=Ak;have cz:(((A.put o ((a.C o).set 1 (Y (N.idxOf e:Nat)))).put o []).put a.B ([my false,Y m.h.p,X1 n m.h.ts,gx o 2 f].set 3 (sl 0 2 (t.set 1 (Y (N.idxOf e:Nat)))))).C d.B=[lw idn N,sl s (Z l) cs]:=by
   rw[Dz L,Dz bm.symm,Dz bm.symm,b3]
  have cv:(((A.put o ((a.C o).set 1 (Y (N.idxOf e:Nat)))).put o []).put a.B ([my false,Y m.h.p,X1 n m.h.ts,gx o 2 f].set 3 (sl 0 2 (t.set 1 (Y (N.idxOf e:Nat)))))).C (d.B+1)=[H,H]:=by
   rw[Dz L,Dz bi.symm,Dz bi.symm,b2]
  have cp:a.B<(((A.put o ((a.C o).set 1 (Y (N.idxOf e:Nat)))).put o []).put a.B ([my false,Y m.h.p,X1 n m.h.ts,gx o 2 f].set 3 (sl 0 2 (t.set 1 (Y (N.idxOf e:Nat)))))).B:=by simp only[Ac];omega
  generalize ((A.put o ((a.C o).set 1 (Y (N.idxOf e:Nat)))).put o []).put a.B ([my false,Y m.h.p,X1 n m.h.ts,gx o 2 f].set 3 (sl 0 2 (t.set 1 (Y (N.idxOf e:Nat)))))=bt at ch b9 cz cv cp;have cg:=b4.o _ (cm.o n 0 t ci);have bu:=r.single cg;generalize t.set 1 (Y (N.idxOf e:Nat))=ys at b9 bu;have ck:V _:=bu;clear a0 az bw ca bg b3 b2 cb bp bh bm bi cg bu b8 ci cf a9 ak P ah v y a8 cm b4 S F b6 b5 h1 h2 cy cx cw bo cu cq ct hd;have c4:=ch.B;cases U:Yk N l i with
  |true=>
   rw[U]at K M;have c7:V (∀id g C,C=Cq N idn ad id g->r (PJ N) ad g->MP N l idn C true):=λid g C bf bq=>HC.o id g C U bf (M.o g rfl bq);clear R M HC U
   (repeat (refine m0 ?_;intro yb ya;(first|(refine Xi (a3 _ _ ck.o _) ?_;rintro _ _ ⟨⟨a2,c6,rfl,bb⟩,a6⟩;(have am:=a6.B;have aj:=a6.C;(try simp only[Ac,Aa,Az]at am aj)))|(refine Xi (K c6 a2 bb _) ?_;rintro _ _ ⟨⟨x7,rfl,b7,⟨ap,ax,ai,au,bj,an,rfl⟩⟩,a5⟩;(have bd:=a5.B;have bc:=a5.C)))));refine X ?_
   exact⟨_,rfl,⟨_,true,rfl,c7.o _ _ _ (b7 rfl) bb,_,_,_,_,_,_,rfl⟩,Xs⟩
  |false=>
   rw[U]at K;have a7:V (∀j,j<i+1->Yk N l j=false):=R.o U;clear R M HC U
   (repeat (refine m0 ?_;intro yb ya;(first|(refine Xi (a3 _ _ ck.o _) ?_;rintro _ _ ⟨⟨a2,c6,rfl,bb⟩,a6⟩;(have am:=a6.B;have aj:=a6.C;(try simp only[Ac,Aa,Az]at am aj)))|(refine Xi (K c6 a2 bb _) ?_;rintro _ _ ⟨⟨x7,rfl,b7,⟨ap,ax,ai,au,bj,an,rfl⟩⟩,a5⟩;(have bd:=a5.B;have bc:=a5.C)))));refine X ?_
   skip;exact m9 a7
 obtain rfl:i=Z l:=L;refine X ?_;exact⟨_,rfl,⟨_,false,rfl,.inl ⟨rfl,T.o⟩,_,_,_,_,_,_,rfl⟩,Xs⟩
def DW (T:n0->Option n0->Prop)(N:ol)(l:n0)(idn:Nat)(x:AV)(b:Bool):Prop:=pB x/\∃o,T l o/\b=o.isSome/\∀a,o=some a->∃id c,x=Cq N idn a id c/\r (PI N) a c
def KT (N:ol)(l:n0)(o:Option n0):Prop:=∃M,Dw N l M/\
 ((Z (Hq N (F9 (Z N) M (Z N)) l)=Z l/\o=none)\/(Z (Hq N (F9 (Z N) M (Z N)) l)≠Z l/\
  ((C5 N l (Hq N (F9 (Z N) M (Z N)) l)=false/\o=none)\/(C5 N l (Hq N (F9 (Z N) M (Z N)) l)/\o=some (Hq N (F9 (Z N) M (Z N)) l)))))
def KU (N:ol)(l:n0)(o:Option n0):Prop:=∃M,Dw N l M/\
 ((o=none/\xU N (F9 (Z N) M (Z N)) l (Z l))\/∃i k y a,o=some (rpl i (uL N l y k a.B) l)/\l[i]?=some y/\y.o=false/\y.A[k]?=some a/\Tg N (F9 (Z N) M (Z N)) l i k/\xU N (F9 (Z N) M (Z N)) l i/\∀b,b<k->Tg N (F9 (Z N) M (Z N)) l i b=false)
def KR (N:ol)(l:n0)(o:Option n0):Prop:=
 (o=none/\∀i,i<Z l->Yk N l i=false)\/∃i y e,o=some (rpl i [Cn y.h.B e] l)/\l[i]?=some y/\Lj y/\Ez l i y.h.B=some e/\Yk N l i/\∀j,j<i->Yk N l j=false
def MQ.stp {N l idn x b}(h:MQ N l idn x b)(g:pB x):DW (KT N) N l idn x b:=by
 refine⟨g,?_⟩;let⟨M,d,h⟩:=h;obtain⟨c,rfl⟩|⟨c,i,j⟩:=h;exact⟨none,⟨M,d,.inl ⟨c,rfl⟩⟩,rfl,λf e=>gp⟩;cases a:C5 N l (Hq N (F9 (Z N) M (Z N)) l)with
 |false=>exact⟨none,⟨M,d,.inr ⟨c,.inl ⟨a,rfl⟩⟩⟩,gp,λf e=>gp⟩
 |true=>exact⟨_,⟨M,d,.inr ⟨c,.inr ⟨a,rfl⟩⟩⟩,gp,λf e=>gp⟩
def LY.stp {N l idn x b}(h:LY N l idn x b)(m:pB x):DW (KU N) N l idn x b:=by refine⟨m,?_⟩;obtain⟨M,c,⟨rfl,h⟩|⟨rfl,i,k,y,a,t,p,q,s,d,j,id,o,f,g⟩⟩:=h;exact⟨none,⟨M,c,.inl ⟨rfl,h⟩⟩,rfl,λn e=>gp⟩;exact⟨_,⟨M,c,.inr ⟨i,k,y,a,rfl,t,p,q,s,d,j⟩⟩,rfl,λn e=>gp⟩
def MP.stp {N l idn x b}(h:MP N l idn x b)(a:pB x):DW (KR N) N l idn x b:=by refine⟨a,?_⟩;obtain⟨rfl,h⟩|⟨rfl,i,y,e,d,f,g,j,k,id,m,n,o⟩:=h;exact⟨none,.inl ⟨rfl,h⟩,rfl,λc e=>gp⟩;exact⟨_,.inr ⟨i,y,e,rfl,d,f,g,j,k⟩,rfl,λc e=>gp⟩
def KT.rt {N ar l b}(h:KT N l (some b))(a:BB N ar l):BB N ar b:=by obtain⟨M,-,⟨-,h⟩|⟨-,⟨-,h⟩|⟨-,h⟩⟩⟩:=h;cases h;cases h;cases h;exact a.sub (λx c=>(BP.1 c).1) (BI (IS _ _) a.gl.len)
def YX {N U l i k y a}(b:l[i]?=some y)(h2:y.A[k]?=some a)(h:Tg N U l i k):C5 N l (rpl i (uL N l y k a.B) l):=by grind[Tg]
def YY {N l i y e}(a:l[i]?=some y)(h2:Ez l i y.h.B=some e)(h:Yk N l i):C5 N l (rpl i [Cn y.h.B e] l):=by grind[Yk]
def KU.rt {N ar l e}(h:KU N l (some e))(c:BB N ar l):BB N ar e:=by obtain⟨M,-,⟨h,-⟩|⟨i,k,y,a,h,b,f,d,g,-⟩⟩:=h;cases h;cases h;exact OR c (OP c (AY b) f d) i (YX b d g)
def KR.rt {N ar l b}(h:KR N l (some b))(a:BB N ar l):BB N ar b:=by obtain⟨h,-⟩|⟨i,y,e,h,c,f,d,g,-⟩:=h;cases h;cases h;exact OR a (rP a c f d) i (YY c d g)
def zA (N ar l cs idn t)(k:BB N ar l)(o:r (PI N) l cs)(a):
  ni 73 [Cq N idn l t cs,sc (.int .u8 (115:UInt8).toNat)] a λA σ'=>(∃x b,A=tp [x,my b]/\DW (KT N) N l idn x b)/\W a σ':=by have j:=λa=>Mu N l cs idn t k.gl o a;apply wl func73;refine mt j ?_;rintro yb ya _ _ ⟨⟨i,p,rfl,c,e⟩,d⟩;have m:V _:=c;have f:V (pB i):=e;obtain⟨s,v,u,z,y,q,rfl⟩:=e;clear c;have g:=d.B;have n:=d.C;(try simp only[Aa]at g n);refine X ?_;exact⟨_,rfl,⟨_,p,rfl,MQ.stp m.o f.o⟩,Xs⟩
def yZ (N ar l cs idn t)(k:BB N ar l)(o:r (PI N) l cs)(a):
  ni 73 [Cq N idn l t cs,sc (.int .u8 (117:UInt8).toNat)] a λz σ'=>(∃x b,z=tp [x,my b]/\DW (KU N) N l idn x b)/\W a σ':=by have j:=λa=>Q1 N ar l cs idn t k o a;apply wl func73;refine mt j ?_;rintro yb ya _ _ ⟨⟨i,p,rfl,c,e⟩,d⟩;have m:V _:=c;have f:V (pB i):=e;obtain⟨s,v,u,B,y,q,rfl⟩:=e;clear c;have g:=d.B;have n:=d.C;(try simp only[Aa]at g n);refine X ?_;exact⟨_,rfl,⟨_,p,rfl,LY.stp m.o f.o⟩,Xs⟩
def zC (N ar l cs idn s)(k:BB N ar l)(o:r (PI N) l cs)(a):
  ni 73 [Cq N idn l s cs,sc (.int .u8 (108:UInt8).toNat)] a λu σ'=>(∃x b,u=tp [x,my b]/\DW (KR N) N l idn x b)/\W a σ':=by have j:=λa=>Um N ar l cs idn s k o a;apply wl func73;refine mt j ?_;rintro yb ya _ _ ⟨⟨i,p,rfl,c,e⟩,d⟩;have m:V _:=c;have f:V (pB i):=e;obtain⟨t,y,v,C,z,q,rfl⟩:=e;clear c;have g:=d.B;have n:=d.C;(try simp only[Aa]at g n);refine X ?_;exact⟨_,rfl,⟨_,p,rfl,MP.stp m.o f.o⟩,Xs⟩
end Go.Proofs.YtmoeoppbmhfbpabGreatDoorJ
