import Derived.Test.YtmoeoppbmhfbpabGreatDoorJSpaB
set_option maxHeartbeats 16000000
set_option maxRecDepth 100000
set_option linter.all false
open List renaming length->Z
namespace Go.Proofs.YtmoeoppbmhfbpabGreatDoorJ
open Go.Abs
def nW {x k j way l a b}(e:x.A[j]?=some a)(d:x.A[iH k (Z x.A-1) way]?=some b):gather x k (x.A.drop j) way l=(Dh l a b).bind λf=>gather x k (x.A.drop (j+1)) (way / (Z x.A-1)) f:=by
 obtain⟨c,g⟩:=BA.1 e;rw[ET c,g];simp only[gather];rw[d]
def ZR {x:AB}{k way}(b:k<Z x.A)(a:0<Z x.A-1):iH k (Z x.A-1) way<Z x.A:=by
 have:=Nat.mod_lt way a;unfold iH;split<;>omega
def qH (x c)(k way:Nat)(hc:AJ x c)(hx:x.fits)(h5:Z x.A<=5)(hk:k<Z x.A)(hm:0<Z x.A-1)(a8:way<=1024)(q):ni 194 [ag c,ic k,ic way] q λr C=>∃b,r=my b/\(b=true↔aB x k way)/\AD q C:=by
 obtain⟨L,id,b,hb,rfl⟩:=hc.cells;unfold A4;have b5:=EL.length A7 hb;have bq:=hx.2.1;have bu:=hx.2.2;obtain⟨M,hM⟩:∃M:Nat,Z x.A-1=M:=⟨_,rfl⟩;have b4:(Z x.A:Int)-1=(M:Int):=AA;have b6:¬((M:Int)=0):=AA;have ax:∀w:Nat,Int.tmod (w:Int) (M:Int)=((w % M:Nat):Int):=λw=>rfl;have ay:∀w:Nat,Int.tdiv (w:Int) (M:Int)=((w / M:Nat):Int):=λw=>rfl;have X:=λH (I:AD q H)=>X8 q [] 1 x.h x.h _ _ ⟨L,rfl⟩ ⟨L,rfl⟩ nk bq H I (Own.nil q H);obtain⟨p,af,-⟩:=X9 (a:=x.h);have bb:AC (aB x k way↔∃l,gather x k x.A way p=some l/\Agree l):=by
  unfold aB;constructor;rintro⟨l0,l,D,E,F⟩;rw[af]at D;cases D;exact⟨l,E,F⟩;rintro⟨l,E,F⟩;exact⟨p,l,af,E,F⟩
 rw[af]at X;clear af;have X:∀H,AD q H->ni 233 [nilS,ag [my x.h.nt,str x.h.B,sl L (Z x.h.A) (x.h.A.map str)],ag [my x.h.nt,str x.h.B,sl L (Z x.h.A) (x.h.A.map str)]] H λr C=>∃v,r=tp [sl v (Z p) (Ds p),my true]/\Z p<=1000/\Own q C v (Z p)/\AD q C/\CE H C:=λH I=>(X H I).mono λr C ⟨v,t,ok,D,⟨E,F⟩,h4,h5,h6,N⟩=>by
  subst E F;exact⟨v,D,nn h4,h5,h6,N⟩
 refine Z9 63 [.tmp 6] Tryz.func194 ?_;refine m0 ?_;intro yb ya;refine Xi (X _ ((AD.refl q).new _)) ?_;rintro _ _ ⟨id0,rfl,bw,bi,bm,am⟩;(have ap:=am.C;have au:=am.B;simp only[Aa]at au);refine mr ?_;rename_i q1;have av:q1.C q.B=[my x.o,my x.h.nt,str x.h.B,sl L (Z x.h.A) (x.h.A.map str),sl id (Z x.A) b]:=by rw[ap _ (by rw[Aa];omega),Ao]
 refine Ae (λm s C=>∃(j d v:Nat) (t:List (Tx×Tx)),m=Z x.A-j/\j<=Z x.A/\d<=1024/\s 1=ic k/\s 2=ic d/\s 3=ptr q.B 0/\s 7=ic (Z x.A)/\s 8=sl v (Z t) (Ds t)/\s 10=ic j/\AD q C/\q.B<C.B/\C.C q.B=[my x.o,my x.h.nt,str x.h.B,sl L (Z x.h.A) (x.h.A.map str),sl id (Z x.A) b]/\Own q C v (Z t)/\Z t<=1000+j*1000/\AC (gather x k x.A way p=gather x k (x.A.drop j) d t)) (Z x.A)
  ⟨0,way,id0,p,AA,AA,a8,by simp[upd,AL],by simp[upd,AL],AG,AG,AG,rfl,bm,AA,av,bi,AA,by simp[AC]⟩ ?_
 clear av bm bi am ap au bw X;rintro m s C ⟨j,d,v,t,rfl,hj,bo,D,E,F,N,h8,U,I,be,a4,T,hll,hG⟩;have b2:=I.B;by_cases bf:j<Z x.A;have ai:=AK bf;have V:=ZR (x:=x) (k:=k) (way:=d) hk hm;have aj:=AK V;have G:AC (gather x k x.A way p=(Dh t x.A[j] x.A[iH k (Z x.A-1) d]).bind λt=>gather x k (x.A.drop (j+1)) (d / (Z x.A-1)) t):=by
  rw[AC,hG.o,nW ai aj]
 obtain⟨ia,r1,br⟩:=Ca hb ai;obtain⟨ib,r2,W⟩:=Ca hb aj;have bd:=bu x.A[j] (AR bf);generalize x.A[j]=a at br G bd;generalize x.A[iH k (Z x.A-1) d]=O at W G;have a5:=λH I T=>X8 q t v a O _ _ ⟨ia,rfl⟩ ⟨ib,rfl⟩ AA bd H I T;clear hG ai aj;rw[hM]at V G W;have a7:d / M<=1024:=BI (Nat.div_le_self _ _) bo;have bn:d % M<M:=Nat.mod_lt _ AA;generalize bc:d / M=S at G a7;have bh:Int.tdiv (d:Int) (M:Int)=(S:Int):=by rw[ay,bc]
 have aw:=ax d;unfold iH at V W;generalize d % M=wm at V W aw bn;clear bc ay ax;have b3:((wm:Int)+1).toNat=wm+1:=AA;by_cases bg:k<=wm;rw[if_pos bg]at V W;refine mr ?_;refine A2 (Q:=λe A B=>e= .normal/\∃(f:Nat) (n:List (Tx×Tx)) (g:Bool),A 1=ic k/\A 2=ic S/\A 3=ptr q.B 0/\A 7=ic (Z x.A)/\A 10=ic j/\A 12=sl f (Z n) (Ds n)/\A 13=my g/\rB t (Dh t a O) n g/\Z n<=Z t+1000/\Own q B f (Z n)/\AD q B/\CE C B) ?_ ?_;refine Ar Ag (λ_=>True) [] [0,1,2,3,4,5,6,7,8,9,10] 6 (nv 17 2047) AH (λ_ _ _ h=>by cases h.1) ?_;intro yb ya;refine Z3 ?_;refine ya.o _ ?_;clear ya yb;refine Ai (i:=11) AH ?_;refine Am ?_;intro yb ya;refine Z3 ?_;refine AF.mono (a5 _ I T) ?_;rintro _ q5 ⟨f,n,g,rfl,z,a0,R,Y,y⟩;refine Z3 ?_;refine ya.o _ _ ⟨λ_ o u _=>y.ver o u,?_⟩;clear ya yb;refine Bu (i:=12) _ (tp [sl f (Z n) (Ds n),my g]) rfl rfl rfl rfl rfl AH AH (λ_ _ _ h=>by cases h.1) (λo u _=>y.ver o u) ?_;refine Bu (i:=13) _ (sl f (Z n) (Ds n)) rfl rfl rfl rfl rfl AH AH (λ_ _ _ h=>by cases h.1) (λo u _=>y.ver o u) ?_;refine Bu (i:=14) _ (my g) rfl rfl rfl rfl rfl AH AH (λ_ _ _ h=>by cases h.1) (λo u _=>y.ver o u) ?_;refine Bu (i:=15) _ (sl f (Z n) (Ds n)) rfl rfl rfl rfl rfl AH AH (λ_ _ _ h=>by cases h.1) (λo u _=>y.ver o u) ?_;refine Bu (i:=16) _ (my g) rfl rfl rfl rfl rfl AH AH (λ_ _ _ h=>by cases h.1) (λo u _=>y.ver o u) ?_;refine Aw AH ⟨rfl,f,n,g,by simp[upd,BC,D],by simp[upd,BC],by simp[upd,BC,F],by simp[upd,BC,N],by simp[upd,BC,U],by simp[upd,BC],by simp[upd,BC],z,a0,R,Y,y⟩;clear D E F N h8 U a5;rintro e A q6 ⟨rfl,f,n,g,D,E,F,N,U,b1,b0,z,a0,R,Y,y⟩;have a6:=y.B;have a9:q6.C q.B=[my x.o,my x.h.nt,str x.h.B,sl L (Z x.h.A) (x.h.A.map str),sl id (Z x.A) b]:=by rw[y.C _ be];exact a4
 clear a4 I T;have J:AC _:=z;clear z;cases g with
 |true=>
  have P:AC (gather x k x.A way p=gather x k (x.A.drop (j+1)) S n):=by
   have h:=J.o;rw[AC,G.o];cases K:Dh t a O with
   |none=>rw[K]at h;cases h
   |some l3=>rw[K]at h;rw[<-h.1];rfl
  clear G J;refine mr ?_;exact⟨Z x.A-(j+1),AA,j+1,S,f,n,rfl,AA,a7,rfl,rfl,nk,AA,R,AA,P⟩
 |false=>
  have P:AC (gather x k x.A way p=none):=by
   have h:=J.o;rw[AC,G.o];cases K:Dh t a O with
   |none=>rfl
   |some l3=>rw[K]at h;cases h.2
  clear G J;refine mr ?_;exact⟨_,rfl,false,rfl,(λh=>by cases h),λh=>by rw[bb.o]at h;obtain⟨l,h,-⟩:=h;rw[P.o]at h;cases h⟩
 rw[if_neg bg]at V W;refine mr ?_;refine A2 (Q:=λe A B=>e= .normal/\∃(f:Nat) (n:List (Tx×Tx)) (g:Bool),A 1=ic k/\A 2=ic S/\A 3=ptr q.B 0/\A 7=ic (Z x.A)/\A 10=ic j/\A 12=sl f (Z n) (Ds n)/\A 13=my g/\rB t (Dh t a O) n g/\Z n<=Z t+1000/\Own q B f (Z n)/\AD q B/\CE C B) ?_ ?_;refine Ar Ag (λ_=>True) [] [0,1,2,3,4,5,6,7,8,9,10] 6 (nv 17 2047) AH (λ_ _ _ h=>by cases h.1) ?_;intro yb ya;refine Z3 ?_;refine ya.o _ ?_;clear ya yb;refine Ai (i:=11) AH ?_;refine Am ?_;intro yb ya;refine Z3 ?_;refine AF.mono (a5 _ I T) ?_;rintro _ q5 ⟨f,n,g,rfl,z,a0,R,Y,y⟩;refine Z3 ?_;refine ya.o _ _ ⟨λ_ o u _=>y.ver o u,?_⟩;clear ya yb;refine Bu (i:=12) _ (tp [sl f (Z n) (Ds n),my g]) rfl rfl rfl rfl rfl AH AH (λ_ _ _ h=>by cases h.1) (λo u _=>y.ver o u) ?_;refine Bu (i:=13) _ (sl f (Z n) (Ds n)) rfl rfl rfl rfl rfl AH AH (λ_ _ _ h=>by cases h.1) (λo u _=>y.ver o u) ?_;refine Bu (i:=14) _ (my g) rfl rfl rfl rfl rfl AH AH (λ_ _ _ h=>by cases h.1) (λo u _=>y.ver o u) ?_;refine Bu (i:=15) _ (sl f (Z n) (Ds n)) rfl rfl rfl rfl rfl AH AH (λ_ _ _ h=>by cases h.1) (λo u _=>y.ver o u) ?_;refine Bu (i:=16) _ (my g) rfl rfl rfl rfl rfl AH AH (λ_ _ _ h=>by cases h.1) (λo u _=>y.ver o u) ?_;refine Aw AH ⟨rfl,f,n,g,by simp[upd,BC,D],by simp[upd,BC],by simp[upd,BC,F],by simp[upd,BC,N],by simp[upd,BC,U],by simp[upd,BC],by simp[upd,BC],z,a0,R,Y,y⟩;clear D E F N h8 U a5;rintro e A q6 ⟨rfl,f,n,g,D,E,F,N,U,b1,b0,z,a0,R,Y,y⟩;have a6:=y.B;have a9:q6.C q.B=[my x.o,my x.h.nt,str x.h.B,sl L (Z x.h.A) (x.h.A.map str),sl id (Z x.A) b]:=by rw[y.C _ be];exact a4
 clear a4 I T;have J:AC _:=z;clear z;cases g with
 |true=>
  have P:AC (gather x k x.A way p=gather x k (x.A.drop (j+1)) S n):=by
   have h:=J.o;rw[AC,G.o];cases K:Dh t a O with
   |none=>rw[K]at h;cases h
   |some l3=>rw[K]at h;rw[<-h.1];rfl
  clear G J;refine mr ?_;exact⟨Z x.A-(j+1),AA,j+1,S,f,n,rfl,AA,a7,rfl,rfl,nk,AA,R,AA,P⟩
 |false=>
  have P:AC (gather x k x.A way p=none):=by
   have h:=J.o;rw[AC,G.o];cases K:Dh t a O with
   |none=>rfl
   |some l3=>rw[K]at h;cases h.2
  clear G J;refine mr ?_;exact⟨_,rfl,false,rfl,(λh=>by cases h),λh=>by rw[bb.o]at h;obtain⟨l,h,-⟩:=h;rw[P.o]at h;cases h⟩
 have bp:j=Z x.A:=AA;subst bp;have hR:AC (gather x k x.A way p=some t):=by rw[AC,hG.o,IZ];simp[gather]
 have bz:=λq=>sY t v AA q;refine m0 ?_;intro yb ya;refine Xi (bz _) ?_;rintro _ _ ⟨ba,rfl,bv,hq⟩;(replace hq:=hq.symm;subst hq);refine mr ?_;exact⟨_,rfl,ba,rfl,by rw[bb.o,bv];exact⟨λh=>⟨t,hR.o,h⟩,λ⟨l,D,E⟩=>by rw[hR.o]at D;cases D;exact E⟩⟩
def Kg (x c)(k:Nat)(L:AJ x c)(hn:Z x.A<=1000)(q):ni 153 [ag c,ic k] q λr d=>∃v,r=ag v/\AJ (C8 x k) v/\AD q d:=by
 obtain⟨l,id,b,E,rfl⟩:=L.cells;unfold A4;have a6:=EL.length A7 E;refine Z9 31 [.cell 4 110] Tryz.func153 ?_;refine mr ?_
 refine Ae (λm s d=>∃(n i:Nat) (g:oh),m=Z x.A-n/\n<=Z x.A/\s 1=ic k/\s 2=ptr q.B 0/\s 4=ptr (q.B+1) 0/\s 5=ptr (q.B+2) 0/\s 6=ic n/\AD q d/\q.B+2<d.B/\d.C q.B=[my x.o,my x.h.nt,str x.h.B,sl l (Z x.h.A) (x.h.A.map str),sl id (Z x.A) b]/\d.C (q.B+1)=[my false,my false,str [],nilS,nilS]/\d.C (q.B+2)=[my false,my x.h.nt,str x.h.B,sl l (Z x.h.A) (x.h.A.map str),sl i (Z (Pi x.A k n)) g]/\Own q d i (Z (Pi x.A k n))/\Z g=Z (Pi x.A k n)*3/\AC (EL Bf (Pi x.A k n) g)) (Z x.A)
  ⟨0,1,[],AA,AA,by simp[upd,AL],AG,AG,AG,rfl,Xs,BJ,?_,?_,?_,Own.nil _ _,by simp[Pi],by simp[AC,Pi,EL]⟩ ?_
 rw[Aj AA,Ah AM,Ah AM,Ao];rw[Aj AA,Ah AM,Be AM AM];rw[show q.B+2=q.B+1+1 by omega,Ak];simp[Pi];rintro m s d ⟨n,i,g,rfl,Q,W,V,h4,P,h6,B,S,a0,T,A,z,F,j⟩;have X:=B.B;have H:=tI x.A k n;by_cases K:n<Z x.A;have o:=AK K;obtain⟨C,r,N⟩:=Ca E o;generalize x.A[n]=a at N o;have y:AC (x.A[n]?=some a):=o;clear o;generalize G:Pi x.A k n=t at A z F j H;have D:AC _:=G;clear G;by_cases f:n=k;have M:((n:Int) !=(k:Int))=false:=by simp[f]
 have e:AC (Pi x.A k (n+1)=t):=by
  rw[AC,<-D.o,f];exact iV (by rw[<-f];exact y.o)
 clear f;refine mr ?_;exact⟨Z x.A-(n+1),AA,n+1,i,g,rfl,AA,nk,by rw[e.o],by rw[e.o];exact z,by rw[e.o];exact F,by rw[AC,e.o];exact j.o⟩;have M:((n:Int) !=(k:Int))=true:=by simp;omega
 have e:AC (Pi x.A k (n+1)=t++[a]):=by
  rw[AC,<-D.o];exact tK y.o f
 clear f;refine mr ?_;refine Ax Ag (λ_=>True) [8,9,10] [0,1,2,3,4,5,6] [7,8,9,10] AH (λ_ _ _ h=>h) ?_;have a7:AD d (d.lay 1):=(AD.refl _).lay 1;have p:AC (Z (Pi x.A k (n+1))=Z t+1):=by rw[AC,e.o];simp
 intro yb ya;refine m4 ?_;intro u qn J O R Y U aa;refine mr ?_;refine⟨Z x.A-(n+1),AA,n+1,u,g++[my a.nt,str a.B,sl C (Z a.A) (a.A.map str)],rfl,AA,nk,O.put AA _,by rw[p.o],by rw[p.o];exact Own.put J _ _,by rw[p.o];simp;omega,?_⟩;rw[AC,e.o];exact EL.append j.o (EL.single ⟨C,rfl⟩);have I:n=Z x.A:=AA;subst I;rw[tJ]at A j;refine mr ?_;exact⟨_,rfl,_,rfl,AJ.of (x:=C8 x k) (ih:=l) (id:=i) j.o,B.put AA _⟩
def lI (x c k)(P:AJ x c)(F:x.fits)(N:Z x.A<=5)(S:k<Z x.A)(q):ni 151 [ag c,ic k] q λr l=>∃b,r=my b/\(b=true↔(Db (C8 x k)=true/\Hj x k))/\AD q l:=by
 have C:=λq=>Kg x c k P F.1 q;have v:=λc' a7 q=>dJ (C8 x k) c' a7 (Ms F) q;have o:=λa d f q=>qH x c k a P F N S d f q;have Q:=xB (x:=x) (k:=k) S;have u:AC (Db (C8 x k)=false->¬(Db (C8 x k)=true/\Hj x k)):=λh=>by rw[h];simp
 have e2:AC (¬0<Z x.A-1->¬(Db (C8 x k)=true/\Hj x k)):=λh=>by rw[<-Q];simp[h]
 have y:AC (Db (C8 x k)=true->0<Z x.A-1->((Db (C8 x k)=true/\Hj x k)↔∃a,a<(Z x.A-1)^Z x.A/\aB x k a)):=λh d=>by
  rw[h,<-Q];exact⟨λh=>h.2.2,λh=>⟨rfl,d,h⟩⟩
 clear Q;generalize (Db (C8 x k)=true/\Hj x k)=K at u e2 y;obtain⟨R,id,b,hb,rfl⟩:=P.cells;unfold A4 at C o⊢;by_cases d:0<Z x.A-1
 ·have a5:¬((Z x.A:Int)<2):=AA;have B:=λq=>wK (Z x.A) AA N q;have a4:=dR (n:=Z x.A) (i:=Z x.A) AA N (AU _);have o:=λa f q=>o a d f q;cases A:Db (C8 x k)with
  |false=>
   have j:AC (¬K):=u.o A;rw[A]at v;clear o B u e2 y;refine Z9 29 [.tmp 4] Tryz.func151 ?_
   repeat' first|refine Z1 ?_|refine Z8 λyb ya=>?_|refine Z4 ?_;clear ya yb|refine Z2 ?_ ?_<;>intro h V<;>try exact Xp|(refine Z5 ?_;first|(refine Xi (C _) ?_;rintro _ _ ⟨O,rfl,z,p⟩;(have I:=p.C;have J:=p.B;have t:=v O z;obtain⟨M,L,b2,ba,rfl⟩:=z.cells;unfold A4 at t))|(refine Xi (t _) ?_;rintro _ _ ⟨rfl,D⟩))|refine Z3 ?_|exact Zt|apply ya.o;clear ya yb
   exact⟨_,rfl,false,rfl,⟨(λh=>by cases h),λh=>absurd h j.o⟩,Xs⟩
  |true=>
   have j:AC (K↔∃a,a<(Z x.A-1)^Z x.A/\aB x k a):=y.o A d;rw[A]at v;generalize (Z x.A-1)^Z x.A=W at B a4 j;clear u e2 y;refine Z9 29 [.tmp 4] Tryz.func151 ?_
   repeat' first|refine Z1 ?_|refine Z8 λyb ya=>?_|refine Z4 ?_;clear ya yb|refine Z2 ?_ ?_<;>intro h V<;>try exact Xp|(refine Z5 ?_;first|(refine Xi (C _) ?_;rintro _ _ ⟨O,rfl,z,p⟩;(have I:=p.C;have J:=p.B;simp only[Aa]at J;have t:=v O z;obtain⟨M,L,b2,ba,rfl⟩:=z.cells;unfold A4 at t))|(refine Xi (t _) ?_;rintro _ _ ⟨rfl,D⟩;(have Y:=D.C;have av:=D.B)))|refine Z3 ?_|exact Zt|apply ya.o;clear ya yb
   rename_i q1 U;have T:AD q U:=Xs;have X:U.C q.B=[my x.o,my x.h.nt,str x.h.B,sl R (Z x.h.A) (x.h.A.map str),sl id (Z x.A) b]:=by rw[Y _ AA,I _ (by rw[Aa];omega),Ao]
   refine Ae (λm s l=>∃a:Nat,m=W-a/\a<=W/\s 1=ic k/\s 2=ptr q.B 0/\s 5=ic (Z x.A)/\s 6=ic a/\AD q l/\q.B<l.B/\l.C q.B=[my x.o,my x.h.nt,str x.h.B,sl R (Z x.h.A) (x.h.A.map str),sl id (Z x.A) b]/\AC (∀w,w<a->¬aB x k w)) W
    ⟨0,AA,AA,by simp[upd,AL],AG,AG,rfl,T,AA,X,λw f=>AA⟩ ?_
   clear p D I Y J av X T t v C;rintro m s l ⟨a,rfl,f,h1,h2,bg,h6,H,bf,be,ax⟩;have bc:=H.B;by_cases a6:a<W
   ·have bb:=λq=>o a AA q
    (repeat (refine m0 ?_;intro yb ya;(first|(refine Xi (B _) ?_;rintro _ _ ⟨rfl,g⟩;(replace g:=g.symm;subst g))|(refine Xi (bb _) ?_;rintro _ _ ⟨bs,rfl,a8,E⟩;(have az:=E.C;have a0:=E.B)))));refine m6 ?_ ?_<;>intro h V
    ·exact⟨_,rfl,true,rfl,⟨λ_=>j.o.2 ⟨a,a6,nu⟩,λ_=>rfl⟩,H.trans E⟩
    have a9:bs=false:=nu
    exact⟨W-(a+1),AA,a+1,rfl,AA,nk,H.trans E,AA,λw bd=>by
     by_cases e:w=a
     ·subst e;intro G;have:=a8.2 G;rw[a9]at this;cases this
     exact ax.o w AA⟩
   have a3:a=W:=AA;subst a3;refine m0 ?_;intro yb ya;refine Xi (B _) ?_;rintro _ _ ⟨rfl,g⟩;(replace g:=g.symm;subst g);refine mr ?_;exact⟨_,rfl,false,rfl,⟨(λh=>by cases h),λh=>by obtain⟨w,f,G⟩:=j.o.1 h;exact absurd G (ax.o w f)⟩⟩
 have a5:(Z x.A:Int)<2:=AA;have j:AC (¬K):=e2.o d;clear o u e2 y;refine Z9 29 [.tmp 4] Tryz.func151 ?_;refine mr ?_;exact⟨_,rfl,false,rfl,⟨(λh=>by cases h),λh=>absurd h j.o⟩,Xs⟩
def H9 {t}(a:(Av t).1=0):Z t<=600/\∃l r,Cc 16 t= .got l r:=by
 have b:Z t<=600:=by
  by_cases d:600<Z t;unfold Av at a;rw[if_pos d]at a;simp at a;omega
 refine⟨b,?_⟩;have c:=Hb t;cases h:Cc 16 t with
 |got l r=>exact⟨l,r,rfl⟩
 |bad e=>
  rw[h]at c;have c:Eo t=((Z t-Z e:Nat):Int):=c;unfold Av at a;rw[if_neg AA,c,if_pos (KA _)]at a;simp at a
def J7 (a b:AE):Prop:=a.nt=b.nt/\a.B=b.B/\a.A=b.A
def dI (a b ca cb)(J:Bf a ca)(O:Bf b cb)(V:Z a.A<=1000)(q):ni 196 [ag ca,ag cb] q λr g=>∃C,r=my C/\(C=true↔J7 a b)/\AD q g:=by
 obtain⟨N,rfl⟩:=J;obtain⟨K,rfl⟩:=O;by_cases c:a.nt=b.nt;have P:(a.nt==b.nt)=true:=by simp[c]
 by_cases f:a.B=b.B;have I:(a.B==b.B)=true:=by simp[f]
 by_cases o:Z a.A=Z b.A;have G:((Z a.A:Int) !=(Z b.A:Int))=false:=by simp[o]
 have p:AC (J7 a b↔a.A=b.A):=⟨λh=>h.2.2,λh=>⟨c,f,h⟩⟩;have z:AC _:=o;generalize J7 a b=n at p;clear c f o;refine Z9 45 [.tmp 4] Tryz.func196 ?_;refine mr ?_
 refine Ae (λm s g=>∃k:Nat,m=Z a.A-k/\k<=Z a.A/\s 2=ptr q.B 0/\s 3=ptr (q.B+1) 0/\s 5=ic k/\AD q g/\q.B+1<g.B/\g.C q.B=[my a.nt,str a.B,sl N (Z a.A) (a.A.map str)]/\g.C (q.B+1)=[my b.nt,str b.B,sl K (Z b.A) (b.A.map str)]/\AC (∀j,j<k->a.A[j]?=b.A[j]?)) (Z a.A)
  ⟨0,AA,AA,AG,AG,rfl,Xs,AM,?_,?_,λj x=>AA⟩ ?_
 rw[Ah AM,Ao];rw[Be AM AM];rintro m s g ⟨k,rfl,S,B,v,R,T,W,U,X,D⟩;by_cases y:k<Z a.A;have A:k<Z b.A:=by have:=z.o;omega
 have L:=A1 y;have F:=A1 A;have i:AC (a.A[k]?=some a.A[k]/\b.A[k]?=some b.A[k]):=⟨AK y,AK A⟩;generalize a.A[k]=t at L i;generalize b.A[k]=u at F i;by_cases l:t=u;have H:(t==u)=true:=by simp[l]
 have Q:AC (∀j,j<k+1->a.A[j]?=b.A[j]?):=λj x=>by
  by_cases e:j=k;subst e;rw[i.o.1,i.o.2,l];exact D.o j AA
 clear l;refine mr ?_;refine Ax Ag (λ_=>True) [] [0,1,2,3,4,5,6,7,8,9,10] [] AH (λ_ _ _ h=>h) ?_;intro yb ya;refine mr ?_;exact⟨Z a.A-(k+1),AA,k+1,rfl,AA,nk,Q⟩;have H:(t==u)=false:=nn l
 have d:AC (¬n):=λh=>l (by
  have B:=p.o.1 h;have v:=i.o.1;rw[B,i.o.2]at v
  exact (Gf v).symm)
 clear l;refine mr ?_;refine Ax Ag (λ_=>True) [] [0,1,2,3,4,5,6,7,8,9,10] [] AH (λ_ _ _ h=>h) ?_;intro yb ya;refine mr ?_;exact⟨_,rfl,false,rfl,⟨(λh=>by cases h),λh=>absurd h d.o⟩⟩;have M:k=Z a.A:=AA;subst M
 have E:AC n:=p.o.2 (by
  apply FL;intro j;by_cases x:j<Z a.A;exact D.o j x
  rw[FD AA,FD (by have:=z.o;omega)])
 refine mr ?_;exact⟨_,rfl,true,rfl,⟨λ_=>E.o,λ_=>rfl⟩⟩;have G:((Z a.A:Int) !=(Z b.A:Int))=true:=nn (show¬(Z a.A:Int)=(Z b.A:Int)by omega);have d:AC (¬J7 a b):=λh=>o (by rw[h.2.2]);generalize J7 a b=n at d;clear c f o;refine Z9 45 [.tmp 4] Tryz.func196 ?_;refine mr ?_;exact⟨_,rfl,false,rfl,⟨(λh=>by cases h),λh=>absurd h d.o⟩,Xs⟩;have I:(a.B==b.B)=false:=nn f;have d:AC (¬J7 a b):=λh=>f h.2.1;generalize J7 a b=n at d;clear c f;refine Z9 45 [.tmp 4] Tryz.func196 ?_;refine mr ?_;exact⟨_,rfl,false,rfl,⟨(λh=>by cases h),λh=>absurd h d.o⟩,Xs⟩;have P:(a.nt==b.nt)=false:=nn c;have d:AC (¬J7 a b):=λh=>c h.1;generalize J7 a b=n at d;clear c;refine Z9 45 [.tmp 4] Tryz.func196 ?_;refine mr ?_;exact⟨_,rfl,false,rfl,⟨(λh=>by cases h),λh=>absurd h d.o⟩,Xs⟩
def iW (ls cs id a ca)(B:EL Bf ls cs)(F:Bf a ca)(V:Z ls<=1000)(M:∀b∈ls,Z b.A<=1000)(v:∃b∈ls,J7 b a)(q):ni 154 [sl id (Z ls) cs,ag ca] q λr d=>r=my true/\AD q d:=by
 obtain⟨A,rfl⟩:=F;have ap:=EL.length A7 B;have E:=λb f u q=>dI b a [my b.nt,str b.B,sl f (Z b.A) (b.A.map str)] _ ⟨f,rfl⟩ ⟨A,rfl⟩ (M b u) q;have I:AC _:=v;clear v;refine Z9 18 [.tmp 4] Tryz.func154 ?_;refine mr ?_
 refine Ae (λm s d=>∃i:Nat,m=Z ls-i/\i<=Z ls/\s 0=sl id (Z ls) cs/\s 3=ptr q.B 0/\s 5=ic i/\AD q d/\q.B<d.B/\d.C q.B=[my a.nt,str a.B,sl A (Z a.A) (a.A.map str)]/\AC (∀j,j<i->∀b,ls[j]?=some b->¬J7 b a)) (Z ls)
  ⟨0,AA,AA,rfl,rfl,rfl,Xs,by simp[Aa],Ao,λj k=>AA⟩ ?_
 rintro m s d ⟨i,rfl,X,W,S,N,p,Y,R,y⟩;have O:=p.B;by_cases x:i<Z ls;have l:=AK x;obtain⟨f,r,J⟩:=Ca B l;have n:=λq=>E ls[i] f (AR x) q;generalize ls[i]=b at J l n;have G:AC _:=l;clear l;generalize C:J7 b a=T at n;have L:AC _:=C;clear C;refine mr ?_;refine Ax Ag (λ_=>True) [5] [0,1,2,3,4] [5] AH (λ_ _ _ h=>h) ?_;intro yb ya;refine mz ?_;refine Xi (n _) ?_;rintro _ _ ⟨K,rfl,D,g⟩;(have P:=g.C;have Q:=g.B);refine m6 ?_ ?_<;>intro h U;exact⟨_,rfl,rfl,p.trans g⟩;refine⟨Z ls-(i+1),AA,i+1,rfl,AA,nk,p.trans g,AA,λj k c t=>?_⟩;by_cases e:j=i;subst e;rw[G.o]at t;cases t;rw[L.o];intro o;have z:=D.2 o;have H:K=false:=nu;rw[H]at z;cases z;exact y.o j AA c t;exfalso;obtain⟨b,u,o⟩:=I.o;obtain⟨j,k⟩:=CL u;exact y.o j (by have:=(BA.1 k).1;omega) b k o
end Go.Proofs.YtmoeoppbmhfbpabGreatDoorJ
