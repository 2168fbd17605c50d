import Derived.Test.YtmoeoppbmhfbpabGreatDoorJDpsC
import Derived.Test.YtmoeoppbmhfbpabGreatDoorJRspC
import Derived.Test.YtmoeoppbmhfbpabGreatDoorJUnfD
set_option maxHeartbeats 64000000
set_option maxRecDepth 100000
set_option linter.all false
open List renaming length->Z
namespace Go.Proofs.YtmoeoppbmhfbpabGreatDoorJ
open Go.Abs
def Pv (x y:AB):AB:=⟨false,x.h,x.A++Gz y.h::y.A.map Gz⟩
def Kj (j n:Nat):Nat->Nat->AB->Option AB
 |0,_,z=>some z
 |m+1,k,z=>match (z.A[j]?).bind (·.A[k]?),(z.A[n]?).bind (·.A[k]?)with
  |some t,some u=>if t=u then Kj j n m (k+1) z else if Ab u=true then Kj j n m (k+1) (Dj u t z)else if Ab t=true then Kj j n m (k+1) (Dj t u z)else none
  |_,_=>none
def Tq (j n:Nat)(z:AB):AB:=⟨false,z.h,(z.A.take n).take j++z.A.drop (n+1)++(z.A.take n).drop (j+1)⟩
def joinL (x:AB)(j:Nat)(y:AB):Option AB:=(Kj j (Z x.A) (Z y.h.A) 0 (Pv x y)).map (Tq j (Z x.A))
def TR (x:AB)(j:Nat)(y w:AB)(ok:Bool):Prop:=(ok=true/\joinL x j y=some w)\/(ok=false/\joinL x j y=none)
def eI {j n m k z a b t u}(d:z.A[j]?=some a)(c:z.A[n]?=some b)(f:a.A[k]?=some t)(e:b.A[k]?=some u):
  Kj j n (m+1) k z=if t=u then Kj j n m (k+1) z else if Ab u=true then Kj j n m (k+1) (Dj u t z)else if Ab t=true then Kj j n m (k+1) (Dj t u z)else none:=by
 rw[Kj,d,c];simp only[FU,f,e]
def dQ (a ia)(c:Z a.A<=1000)(e:∀t∈a.A,Z t<=1001)(d):ni 235 [ag [my a.nt,str a.B,sl ia (Z a.A) (a.A.map str)]] d λr b=>∃i,r=ag [my a.nt,str a.B,sl i (Z a.A) ((Gz a).A.map str)]/\AD d b:=lW a _ ⟨ia,rfl⟩ c e d
def wG (a i):Bf (Gz a) [my a.nt,str a.B,sl i (Z a.A) ((Gz a).A.map str)]:=⟨i,by simp[Gz]⟩
def qK (x ih id b v t)(i:EL Bf x.A b)(j:x.fits)(d):ni 236 [ag [my x.o,my x.h.nt,str x.h.B,sl ih (Z x.h.A) (x.h.A.map str),sl id (Z x.A) b],str v,str t] d λr g=>∃e f a,r=ag [my ((Dj v t x).o),my ((Dj v t x).h.nt),str (Dj v t x).h.B,sl e (Z (Dj v t x).h.A) ((Dj v t x).h.A.map str),sl f (Z (Dj v t x).A) a]/\EL Bf (Dj v t x).A a/\AD d g:=
 (dK x _ v t ⟨[my x.h.nt,str x.h.B,sl ih (Z x.h.A) (x.h.A.map str)],id,b,⟨ih,rfl⟩,i,rfl⟩ j d).mono λr g ⟨c,n,k,l⟩=>by
  obtain⟨e,f,a,m,rfl⟩:=k.cells;exact⟨e,f,a,n,m,l⟩
def GC (x y:AB)(j k:Nat)(z:AB):Prop:=z.fits/\z.o=false/\Z z.A=Z x.A+1+Z y.A/\(∃a,z.A[j]?=some a/\Z a.A=Z y.h.A)/\(∃a,z.A[Z x.A]?=some a/\Z a.A=Z y.h.A)/\
 Kj j (Z x.A) (Z y.h.A) 0 (Pv x y)=Kj j (Z x.A) (Z y.h.A-k) k z
def XV {x y}(d:x.fits)(e:y.fits)(f:Z x.A<=100)(g:Z y.A<=100):(Pv x y).fits:=
 ⟨by simp[Pv];omega,d.2.1,λa c=>by
  simp only[Pv,AW,BD,AN]at c;rcases c with c|rfl|⟨b,hb,rfl⟩;exact d.2.2 a c;simpa[Gz]using e.2.1
  simpa[Gz]using e.2.2 b hb⟩
def GC.start {x y j a}(e:x.fits)(g:y.fits)(c:Z x.A<=100)(d:Z y.A<=100)(b:x.A[j]?=some a)(f:Z a.A=Z y.h.A):GC x y j 0 (Pv x y):=
 ⟨XV e g c d,rfl,by simp[Pv];omega,⟨a,by
  have:=(BA.1 b).1
  rw[Pv,MB this];exact b,f⟩,⟨Gz y.h,by simp[Pv],by simp[Gz]⟩,rfl⟩
def lU {v t z}{i:Nat}{a}(h:z.A[i]?=some a):(Dj v t z).A[i]?=some (F8 v t a):=by simp[Dj,h]
def GC.put {x y j k z}(h:GC x y j k z){v t}(f:Kj j (Z x.A) (Z y.h.A-k) k z=Kj j (Z x.A) (Z y.h.A-(k+1)) (k+1) (Dj v t z)):GC x y j (k+1) (Dj v t z):=by
 obtain⟨l,n,g,⟨a,e,b⟩,⟨m,d,i⟩,c⟩:=h;exact⟨dP l,rfl,by simpa[Dj]using g,⟨_,lU e,by simpa[F8]using b⟩,⟨_,lU d,by simpa[F8]using i⟩,c.trans f⟩
def G4 (z:AB)(j n i:Nat):oq:=if i<=j then z.A.take i else z.A.take j++z.A.drop (n+1)++(z.A.take i).drop (j+1)
def zO {z j n i a}(h:z.A[i]?=some a)(c:i≠j):G4 z j n (i+1)=G4 z j n i++[a]:=by
 unfold G4;by_cases b:i<=j;rw[if_pos AA,if_pos b,AT,h];rfl;have d:=(BA.1 h).1;rw[if_neg AA,if_neg b,AT,h,NG (by simp;omega)];simp
def ZW {z j n}:G4 z j n (j+1)=G4 z j n j++z.A.drop (n+1):=by
 unfold G4;have e:(z.A.take (j+1)).drop (j+1)=[]:=JU (by rw[CN];omega);rw[if_neg AA,if_pos (AU _),e,EJ]
def WO {z j n i}:Z (G4 z j n i)<=Z z.A+Z z.A+Z z.A:=by
 unfold G4;split;simp;omega;simp;omega
def WQ {z j n}(h:j<n):G4 z j n n=(Tq j n z).A:=by
 unfold G4 Tq;rw[if_neg AA,List.take_take,ER AA]
def GC.last {x y j z}(h:GC x y j (Z y.h.A) z):joinL x j y=some (Tq j (Z x.A) z):=by
 rw[joinL,h.2.2.2.2.2,GX];rfl
def nM (x y c cy)(j:Nat)(b0)(hc:AJ x c)(c5:AJ y cy)(hx:x.fits)(hy:y.fits)(h5:Z x.A<=100)(cp:Z y.A<=100)(ce:x.A[j]?=some b0)(c7:Z b0.A=Z y.h.A)
  (hs:∀a,a=y.h\/a∈y.A->∀t∈a.A,Z t<=1001)(d):ni 201 [ag c,ic j,ag cy] d λr A=>∃w cw ok,r=tp [ag cw,my ok]/\AJ w cw/\TR x j y w ok/\AD d A:=by
 have cc:=hc;obtain⟨W,id,b,hb,rfl⟩:=hc.cells;obtain⟨V,idy,by',cd,rfl⟩:=c5.cells;unfold A4 at cc⊢;have dh:=EL.length A7 hb;have c6:=EL.length A7 cd;have b4:=λd=>dQ y.h V hy.2.1 (hs _ (.inl rfl)) d;refine Z9 153 [.cell 6 110,.tmp 7] Tryz.func201 ?_;refine mr ?_
 refine Ae (λm s A=>∃(i F:Nat) (g:oh),m=Z x.A-i/\i<=Z x.A/\s 1=ic j/\s 3=ptr d.B 0/\s 5=ptr (d.B+1) 0/\s 6=ptr (d.B+2) 0/\s 8=ptr (d.B+3) 0/\s 9=ic i/\AD d A/\d.B+3<A.B/\A.C d.B=[my x.o,my x.h.nt,str x.h.B,sl W (Z x.h.A) (x.h.A.map str),sl id (Z x.A) b]/\A.C (d.B+1)=[my y.o,my y.h.nt,str y.h.B,sl V (Z y.h.A) (y.h.A.map str),sl idy (Z y.A) by']/\A.C (d.B+2)=[my false,my false,str [],nilS,nilS]/\A.C (d.B+3)=[my false,my x.h.nt,str x.h.B,sl W (Z x.h.A) (x.h.A.map str),sl F i g]/\Own d A F i/\Z g=i*3/\AC (EL Bf (x.A.take i) g)) (Z x.A)
  ⟨0,1,[],AA,AA,by simp[upd,AL],AG,AG,AG,AG,AG,Xs,BJ,?_,?_,?_,?_,Own.nil _ _,nk,by simp[AC,EL]⟩ ?_
 ·rw[Aj AA,Ah AM,Ah AM,Ah AM,Ao]
 ·rw[Aj AA,Ah AM,Ah AM,Be AM AM]
 ·rw[Aj AA,Ah AM,Be AM AM]
 ·rw[show d.B+3=d.B+1+1+1 by omega,Ak]
 rintro m s A ⟨i,F,g,rfl,hi,h1,h3,bc,h6,h8,h9,C,X,O,N,I,E,G,K,H⟩;have a5:=C.B;by_cases az:i<Z x.A
 ·have J:=AK az;obtain⟨P,r,hd⟩:=Ca hb J;generalize x.A[i]=a at hd J;have M:AC (EL Bf (x.A.take (i+1)) (g++[my a.nt,str a.B,sl P (Z a.A) (a.A.map str)])):=by
   rw[AC,AT,J];exact EL.append H.o (EL.single ⟨P,rfl⟩)
  clear J H b4;refine mr ?_;refine Ax Ag (λ_=>True) [8,9,10] [0,1,2,3,4,5,6] [7,8,9,10] AH (λ_ _ _ h=>h) ?_;have cg:AD A (A.lay 1):=(AD.refl _).lay 1;intro yb ya;refine m4 ?_;intro B dn aj ak ad ab ac aa;refine mr ?_;refine⟨Z x.A-(i+1),AA,i+1,B,g++[my a.nt,str a.B,sl P (Z a.A) (a.A.map str)],?_⟩
  ((repeat' refine Zi ?_ ?_)<;>first|exact Xq|exact M|exact (ak.put AA _)|exact (Own.put aj _ _)|exact Xs)
 have be:i=Z x.A:=AA;subst be;rw[AS]at H;have Y:AC _:=H;clear H az;refine mr ?_;refine A2 (Q:=λe L f=>e= .normal/\L 1=ic j/\L 3=ptr d.B 0/\L 5=ptr (d.B+1) 0/\L 6=ptr (d.B+2) 0/\L 8=ptr (d.B+3) 0/\L 10=ic (Z x.A)/\AD d f/\d.B+3<f.B/\f.C d.B=[my x.o,my x.h.nt,str x.h.B,sl W (Z x.h.A) (x.h.A.map str),sl id (Z x.A) b]/\f.C (d.B+1)=[my y.o,my y.h.nt,str y.h.B,sl V (Z y.h.A) (y.h.A.map str),sl idy (Z y.A) by']/\f.C (d.B+2)=[my false,my false,str [],nilS,nilS]/\∃S B,f.C (d.B+3)=[my false,my x.h.nt,str x.h.B,sl W (Z x.h.A) (x.h.A.map str),sl B (Z x.A+1) (g++[my y.h.nt,str y.h.B,sl S (Z y.h.A) ((Gz y.h).A.map str)])]/\Own d f B (Z x.A+1)) ?_ ?_
 ·refine Ar Ag (λ_=>True) [8] [0,1,2,3] 5 (nv 9 15) AH (λ_ _ _ h=>by cases h.1) ?_;intro yb ya;refine Z3 ?_;refine ya.o _ ?_;clear ya yb;refine Ai (i:=4) AH ?_;refine Am ?_;intro yb ya;refine Z3 ?_;refine AF.mono (b4 _) ?_;rintro _ d5 ⟨S,rfl,D⟩;refine Z3 ?_;refine ya.o _ _ ⟨Al D,?_⟩;clear ya yb;have a4:=D.B;have U:=D.C;have a9:=C.trans D;have b6:=Own.keep G D;refine Ai (i:=5) AH ?_;refine Am ?_;intro yb ya;refine Z3 ?_;refine ya.o _ _ ⟨Al (D.lay 1),?_⟩;clear ya yb;refine Ai (i:=6) AH ?_;refine Am ?_;intro yb ya;refine Z3 ?_;refine Bo (by first|exact It) a9 b6 nr (by rfl) K (by rfl) (by rfl) nr AA AA ?_;intro B dn aj ak ad ab ac aa;refine Z3 ?_;refine ya.o _ _ ⟨λ_ o ho _=>by rw[ac];exact D.ver o ho,?_⟩;clear ya yb;refine Ai (i:=7) AH ?_;refine Am ?_;intro yb ya;refine Z3 ?_;refine ya.o _ _ ⟨λ_ o ho _=>by rw[ac];exact D.ver o ho,?_⟩;clear ya yb;have en:∀p,p<A.B->dn.C p=A.C p:=λp hp=>by rw[ad,U _ AA]
  have en1:dn.C (d.B+3)=[my false,my x.h.nt,str x.h.B,sl W (Z x.h.A) (x.h.A.map str),sl F (Z x.A) g]:=by rw[en _ X,E]
  refine Ai (i:=8) AH ?_;refine Am ?_;intro yb ya;refine Z3 ?_;refine ya.o _ _ ⟨A3 rfl,?_⟩;clear ya yb;refine Aw AH ⟨rfl,?_⟩;simp only[upd,↓reduceIte,Nat.reduceEqDiff,h1,h3,bc,h6,h8,GM];refine⟨ak.put AA _,by simp only[Ac];omega,?_,?_,?_,S,B,?_,Own.put aj _ _⟩
  ·rw[Aj AA,en _ AA,O]
  ·rw[Aj AA,en _ AA,N]
  ·rw[Aj AA,en _ AA,I]
  rw[Ak]
 clear G O N I E X C a5 b4;rintro e L f ⟨rfl,g1,g3,g5,g6,g8,g10,C,X,O,N,I,S,B,E,G⟩;have b7:AC (EL Bf (x.A++[Gz y.h]) (g++[my y.h.nt,str y.h.B,sl S (Z y.h.A) ((Gz y.h).A.map str)])):=EL.append Y.o (EL.single (wG _ _));have a6:Z (g++[my y.h.nt,str y.h.B,sl S (Z y.h.A) ((Gz y.h).A.map str)])=(Z x.A+1)*3:=by simp;omega
 generalize g++[my y.h.nt,str y.h.B,sl S (Z y.h.A) ((Gz y.h).A.map str)]=xs1 at E b7 a6;clear K Y;have a5:=C.B;refine mr ?_
 refine Ae (λm s A=>∃(i F:Nat) (g:oh),m=Z y.A-i/\i<=Z y.A/\s 1=ic j/\s 3=ptr d.B 0/\s 5=ptr (d.B+1) 0/\s 6=ptr (d.B+2) 0/\s 8=ptr (d.B+3) 0/\s 10=ic (Z x.A)/\s 11=ic i/\AD d A/\d.B+3<A.B/\A.C d.B=[my x.o,my x.h.nt,str x.h.B,sl W (Z x.h.A) (x.h.A.map str),sl id (Z x.A) b]/\A.C (d.B+1)=[my y.o,my y.h.nt,str y.h.B,sl V (Z y.h.A) (y.h.A.map str),sl idy (Z y.A) by']/\A.C (d.B+2)=[my false,my false,str [],nilS,nilS]/\A.C (d.B+3)=[my false,my x.h.nt,str x.h.B,sl W (Z x.h.A) (x.h.A.map str),sl F (Z x.A+1+i) g]/\Own d A F (Z x.A+1+i)/\Z g=(Z x.A+1+i)*3/\AC (EL Bf (x.A++[Gz y.h]++(y.A.take i).map Gz) g)) (Z y.A)
  ⟨0,B,xs1,AA,AA,AI,AI,AI,AI,AI,AI,AG,C,X,O,N,I,E,G,a6,by simpa[AC]using b7.o⟩ ?_
 clear g1 g3 g5 g6 g8 g10 C X O N I E G b7 a6 a5;rintro m s A ⟨i,F,g,rfl,hi,h1,h3,bc,h6,h8,ba,cj,C,X,O,N,I,E,G,K,H⟩;have a5:=C.B;by_cases az:i<Z y.A
 ·have J:=AK az;obtain⟨P,r,hd⟩:=Ca cd J;have b9:=hy.2.2 _ (AR az);have bp:=hs _ (.inr (AR az));generalize y.A[i]=w at hd J b9 bp;have HG:AC ((y.A.take (i+1)).map Gz=(y.A.take i).map Gz++[Gz w]):=by
   rw[AC,AT,J];simp
  clear J;have cf:=λd=>dQ w P b9 bp d;clear bp;have Y:AC _:=H;have T:AC _:=K;clear H;have bf:AC (Z x.A+1+(i+1)=Z x.A+1+i+1):=by rw[AC];omega
  have bq:Z x.A+1+i<=300:=AA;generalize Z x.A+1+i=q at E G K T bf bq;refine mr ?_;refine A2 (Q:=λe L f=>e= .normal/\L 1=ic j/\L 3=ptr d.B 0/\L 5=ptr (d.B+1) 0/\L 6=ptr (d.B+2) 0/\L 8=ptr (d.B+3) 0/\L 10=ic (Z x.A)/\L 11=ic i/\AD d f/\d.B+3<f.B/\f.C d.B=[my x.o,my x.h.nt,str x.h.B,sl W (Z x.h.A) (x.h.A.map str),sl id (Z x.A) b]/\f.C (d.B+1)=[my y.o,my y.h.nt,str y.h.B,sl V (Z y.h.A) (y.h.A.map str),sl idy (Z y.A) by']/\f.C (d.B+2)=[my false,my false,str [],nilS,nilS]/\∃S B,f.C (d.B+3)=[my false,my x.h.nt,str x.h.B,sl W (Z x.h.A) (x.h.A.map str),sl B (q+1) (g++[my w.nt,str w.B,sl S (Z w.A) ((Gz w).A.map str)])]/\Own d f B (q+1)) ?_ ?_
  ·refine Ar Ag (λ_=>True) [11] [0,1,2,3,4,5,6] 5 (nv 12 127) AH (λ_ _ _ h=>by cases h.1) ?_;intro yb ya;refine Z3 ?_;refine ya.o _ ?_;clear ya yb;refine Ai (i:=7) AH ?_;refine Am ?_;intro yb ya;refine Z3 ?_;refine AF.mono (cf _) ?_;rintro _ d5 ⟨S,rfl,D⟩;refine Z3 ?_;refine ya.o _ _ ⟨Al D,?_⟩;clear ya yb;have a4:=D.B;have U:=D.C;have a9:=C.trans D;have b6:=Own.keep G D;refine Ai (i:=8) AH ?_;refine Am ?_;intro yb ya;refine Z3 ?_;refine ya.o _ _ ⟨Al (D.lay 1),?_⟩;clear ya yb;refine Ai (i:=9) AH ?_;refine Am ?_;intro yb ya;refine Z3 ?_;refine Bo (by first|exact It) a9 b6 nr (by rfl) K (by rfl) (by rfl) nr AA AA ?_;intro B dn aj ak ad ab ac aa;refine Z3 ?_;refine ya.o _ _ ⟨λ_ o ho _=>by rw[ac];exact D.ver o ho,?_⟩;clear ya yb;refine Ai (i:=10) AH ?_;refine Am ?_;intro yb ya;refine Z3 ?_;refine ya.o _ _ ⟨λ_ o ho _=>by rw[ac];exact D.ver o ho,?_⟩;clear ya yb;have en:∀p,p<A.B->dn.C p=A.C p:=λp hp=>by rw[ad,U _ AA]
   have en1:dn.C (d.B+3)=[my false,my x.h.nt,str x.h.B,sl W (Z x.h.A) (x.h.A.map str),sl F q g]:=by rw[en _ X,E]
   refine Ai (i:=11) AH ?_;refine Am ?_;intro yb ya;refine Z3 ?_;refine ya.o _ _ ⟨A3 rfl,?_⟩;clear ya yb;refine Aw AH ⟨rfl,?_⟩;simp only[upd,↓reduceIte,Nat.reduceEqDiff,h1,h3,bc,h6,h8,ba,cj,GM];refine⟨ak.put AA _,by simp only[Ac];omega,?_,?_,?_,S,B,?_,Own.put aj _ _⟩
   ·rw[Aj AA,en _ AA,O]
   ·rw[Aj AA,en _ AA,N]
   ·rw[Aj AA,en _ AA,I]
   rw[Ak]
  clear G O N I E X C a5;rintro e L f ⟨rfl,g1,g3,g5,g6,g8,g10,g11,C,X,O,N,I,S,B,E,G⟩;have HX:AC (EL Bf (x.A++[Gz y.h]++(y.A.take (i+1)).map Gz) (g++[my w.nt,str w.B,sl S (Z w.A) ((Gz w).A.map str)])):=by
   rw[AC,HG.o,<-CR];exact EL.append Y.o (EL.single (wG _ _))
  clear Y cf;refine mr ?_;refine⟨Z y.A-(i+1),AA,i+1,B,g++[my w.nt,str w.B,sl S (Z w.A) ((Gz w).A.map str)],?_⟩;rw[bf.o]
  ((repeat' refine Zi ?_ ?_)<;>first|exact Xq|exact HX|exact (by rw[AX,T.o];simp;omega)|exact Xs)
 have be:i=Z y.A:=AA;subst be;rw[AS]at H;have ck:AC (EL Bf (Pv x y).A g):=by
  have:=H.o;simpa[AC,Pv]using this
 have ca:Z x.A+1+Z y.A=Z (Pv x y).A:=by simp[Pv];omega
 rw[ca]at E G K;have cm:AC (GC x y j 0 (Pv x y)):=GC.start hx hy h5 cp ce c7;clear H G K az;refine mr ?_
 refine Ae (λm s A=>∃(k:Nat) (z:AB) (iz jz:Nat) (bz:oh),m=Z y.h.A-k/\k<=Z y.h.A/\s 1=ic j/\s 3=ptr d.B 0/\s 5=ptr (d.B+1) 0/\s 6=ptr (d.B+2) 0/\s 8=ptr (d.B+3) 0/\s 10=ic (Z x.A)/\s 12=ic k/\AD d A/\d.B+3<A.B/\A.C d.B=[my x.o,my x.h.nt,str x.h.B,sl W (Z x.h.A) (x.h.A.map str),sl id (Z x.A) b]/\A.C (d.B+1)=[my y.o,my y.h.nt,str y.h.B,sl V (Z y.h.A) (y.h.A.map str),sl idy (Z y.A) by']/\A.C (d.B+2)=[my false,my false,str [],nilS,nilS]/\A.C (d.B+3)=[my z.o,my z.h.nt,str z.h.B,sl iz (Z z.h.A) (z.h.A.map str),sl jz (Z z.A) bz]/\AC (EL Bf z.A bz/\GC x y j k z)) (Z y.h.A)
  ⟨0,Pv x y,W,F,g,AA,AA,AI,AI,AI,AI,AI,AI,AG,C,X,O,N,I,E,ck.o,cm.o⟩ ?_
 clear h1 h3 bc h6 h8 ba cj C X O N I E a5 ck cm ca;rintro m s A ⟨k,z,iz,jz,bz,rfl,hk,h1,h3,bc,h6,h8,ba,da,C,X,O,N,I,E,hH⟩;have a5:=C.B;by_cases az:k<Z y.h.A
 ·obtain⟨hz,hJ⟩:=hH.o;have c9:=hJ;obtain⟨bg,cn,bo,⟨a,ha,bi⟩,⟨a',bm,c8⟩,-⟩:=c9;have b2:=EL.length A7 hz;have hb5:=bg.1;have de:=(BA.1 ha).1;have dc:=(BA.1 bm).1;obtain⟨P,r,hd⟩:=Ca hz ha;obtain⟨ia',r',df⟩:=Ca hz bm;have b1:a.A[k]?=some (a.A[k]'AA):=AK AA;have cz:=A1 (l:=a.A) (k:=k) AA;generalize a.A[k]'AA=t at b1 cz;have bw:a'.A[k]?=some (a'.A[k]'AA):=AK AA;have cx:=A1 (l:=a'.A) (k:=k) AA;generalize a'.A[k]'AA=u at bw cx;have hm1:Z y.h.A-k=Z y.h.A-(k+1)+1:=AA;have b3:=eI (m:=Z y.h.A-(k+1)) ha bm b1 bw;rw[<-hm1]at b3;have a3:AC _:=b3;clear b3;have HJ:AC _:=hJ;have HZ:AC _:=hz;have HF:AC _:=bg;have ct:(k:Int)<(Z a.A:Int):=AA;have cr:(k:Int)<(Z a'.A:Int):=AA;have hP:=λv w d=>qK z iz jz bz v w hz bg d;have bn:Z z.A<=300:=AA;clear ha bm b1 bw hm1 hz hJ hH bg cn bo;have db:=hy.2.1;have hV:=λd=>Cg u d;have bb:=λd=>Cg t d;by_cases ay:t=u
  ·have br:(t==u)=true:=by simp[ay]
   have M:AC (EL Bf z.A bz/\GC x y j (k+1) z):=by
    obtain⟨q1,q2,q3,q4,q5,q6⟩:=HJ.o;exact⟨HZ.o,q1,q2,q3,q4,q5,by rw[q6,a3.o,if_pos ay]⟩
   clear ay a3 hP hV bb HJ HZ;refine mr ?_;refine⟨Z y.h.A-(k+1),AA,k+1,z,iz,jz,bz,?_⟩;exact m9 M
  have br:(t==u)=false:=nn ay;cases hv:Ab u with
  |true=>
   rw[hv]at hV;have M:AC (GC x y j (k+1) (Dj u t z)):=GC.put HJ.o (by rw[a3.o,if_neg ay,if_pos hv]);have hP:=hP u t;clear ay a3 bb HJ HZ
   (repeat (refine m0 ?_;intro yb ya;(first|(refine Xi (hV _) ?_;rintro _ _ ⟨rfl,rfl⟩)|(refine Xi (hP _) ?_;rintro _ _ ⟨i5,j5,b5,rfl,a8,D⟩;(rename_i d5;have U:=D.C;have a4:=D.B;have a9:=C.trans D;have o0:=(U _ (show d.B<_ by omega)).trans O;have o1:=(U _ (show d.B+1<_ by omega)).trans N;have o2:=(U _ (show d.B+2<_ by omega)).trans I;have o3:=(U _ (show d.B+3<_ by omega)).trans E)))));refine mr ?_
   have b8:AC (EL Bf (Dj u t z).A b5/\GC x y j (k+1) (Dj u t z)):=⟨a8,M.o⟩;refine⟨Z y.h.A-(k+1),AA,k+1,Dj u t z,i5,j5,b5,?_⟩
   ((repeat' refine Zi ?_ ?_)<;>first|exact Xq|exact b8|exact (a9.put AA _)|exact o0|exact o1|exact o2|exact Xs)
  |false=>
   rw[hv]at hV;cases hw:Ab t with
   |true=>
    rw[hw]at bb;have M:AC (GC x y j (k+1) (Dj t u z)):=GC.put HJ.o (by rw[a3.o,if_neg ay,if_neg (by simp[hv]),if_pos hw]);have hP:=hP t u;clear ay a3 HJ HZ
    (repeat (refine m0 ?_;intro yb ya;(first|(refine Xi (hV _) ?_;rintro _ _ ⟨rfl,rfl⟩)|(refine Xi (bb _) ?_;rintro _ _ ⟨rfl,rfl⟩)|(refine Xi (hP _) ?_;rintro _ _ ⟨i5,j5,b5,rfl,a8,D⟩;(rename_i d5;have U:=D.C;have a4:=D.B;have a9:=C.trans D;have o0:=(U _ (show d.B<_ by omega)).trans O;have o1:=(U _ (show d.B+1<_ by omega)).trans N;have o2:=(U _ (show d.B+2<_ by omega)).trans I;have o3:=(U _ (show d.B+3<_ by omega)).trans E)))));refine mr ?_
    have b8:AC (EL Bf (Dj t u z).A b5/\GC x y j (k+1) (Dj t u z)):=⟨a8,M.o⟩;refine⟨Z y.h.A-(k+1),AA,k+1,Dj t u z,i5,j5,b5,?_⟩
    ((repeat' refine Zi ?_ ?_)<;>first|exact Xq|exact b8|exact (a9.put AA _)|exact o0|exact o1|exact o2|exact Xs)
   |false=>
    rw[hw]at bb;have M:AC (joinL x j y=none):=by
     rw[AC,joinL,HJ.o.2.2.2.2.2,a3.o,if_neg ay,if_neg (by simp[hv]),if_neg (by simp[hw])];rfl
    clear ay a3 HJ HZ hP
    (repeat (refine m0 ?_;intro yb ya;(first|(refine Xi (hV _) ?_;rintro _ _ ⟨rfl,rfl⟩)|(refine Xi (bb _) ?_;rintro _ _ ⟨rfl,rfl⟩))));refine mr ?_
    exact⟨_,rfl,x,_,false,rfl,cc,.inr ⟨rfl,M.o⟩,C.put AA _⟩
 have bv:k=Z y.h.A:=AA;subst bv;obtain⟨hz,hJ⟩:=hH.o;have bo:=hJ.2.2.1;have bn:Z x.A+1<=Z z.A/\Z z.A<=300:=AA;have HL:AC (joinL x j y=some (Tq j (Z x.A) z)):=hJ.last;have b2:=EL.length A7 hz;have cv:=(BA.1 ce).1;clear bo hJ hH az;refine mr ?_
 refine Ae (λm s f=>∃(i F:Nat) (g:oh),m=Z x.A-i/\i<=Z x.A/\s 1=ic j/\s 6=ptr (d.B+2) 0/\s 8=ptr (d.B+3) 0/\s 10=ic (Z x.A)/\s 15=ptr A.B 0/\s 16=ic i/\AD d f/\A.B<f.B/\f.C (d.B+2)=[my false,my false,str [],nilS,nilS]/\f.C (d.B+3)=[my z.o,my z.h.nt,str z.h.B,sl iz (Z z.h.A) (z.h.A.map str),sl jz (Z z.A) bz]/\f.C A.B=[my false,my z.h.nt,str z.h.B,sl iz (Z z.h.A) (z.h.A.map str),sl F (Z (G4 z j (Z x.A) i)) g]/\Own d f F (Z (G4 z j (Z x.A) i))/\Z g=Z (G4 z j (Z x.A) i)*3/\AC (EL Bf (G4 z j (Z x.A) i) g)) (Z x.A)
  ⟨0,1,[],AA,AA,AI,AI,AI,AI,AG,AG,Xs,BJ,?_,?_,?_,Own.nil _ _,by simp[G4],by simp[AC,G4,EL]⟩ ?_
 ·rw[Aj AA,Ah AA,I]
 ·rw[Aj AA,Ah AA,E]
 ·rw[Ak];simp[G4]
 clear h1 h3 bc h6 h8 ba da C O N I E;rintro m s f ⟨i,F,g,rfl,hi,h1,h6,h8,ba,ci,ch,C,a7,I,E,a0,G,K,H⟩;have bd:=C.B;have bi:=WO (z:=z) (j:=j) (n:=Z x.A) (i:=i);by_cases az:i<Z x.A
 ·have J:=AK (show i<Z z.A by omega);obtain⟨P,r,hd⟩:=Ca hz J;generalize z.A[i]'AA=a at hd J;have Y:AC _:=H;have T:AC _:=K;clear H;by_cases bh:i=j
  ·have cq:((i:Int) !=(j:Int))=false:=by simp[bh]
   subst bh;have HS:AC (G4 z i (Z x.A) (i+1)=G4 z i (Z x.A) i++z.A.drop (Z x.A+1)):=ZW;generalize G4 z i (Z x.A) i=R at a0 G K T Y bi HS;clear J hd;refine mr ?_
   refine Ae (λm s d3=>∃(k F:Nat) (g:oh),m=Z z.A-k/\Z x.A+1<=k/\k<=Z z.A/\s 1=ic i/\s 6=ptr (d.B+2) 0/\s 8=ptr (d.B+3) 0/\s 10=ic (Z x.A)/\s 15=ptr A.B 0/\s 16=ic i/\s 17=ic k/\AD d d3/\A.B<d3.B/\d3.C (d.B+2)=[my false,my false,str [],nilS,nilS]/\d3.C (d.B+3)=[my z.o,my z.h.nt,str z.h.B,sl iz (Z z.h.A) (z.h.A.map str),sl jz (Z z.A) bz]/\d3.C A.B=[my false,my z.h.nt,str z.h.B,sl iz (Z z.h.A) (z.h.A.map str),sl F (Z R+(k-(Z x.A+1))) g]/\Own d d3 F (Z R+(k-(Z x.A+1)))/\Z g=(Z R+(k-(Z x.A+1)))*3/\AC (EL Bf (R++(z.A.drop (Z x.A+1)).take (k-(Z x.A+1))) g)) (Z z.A-(Z x.A+1))
    ⟨Z x.A+1,F,g,AA,AA,AA,AI,AI,AI,AI,AI,AI,AG,C,a7,I,E,by rw[a0];simp,nn G,nn T.o,by simpa[AC]using Y.o⟩ ?_
   clear h1 h6 h8 ba ci ch C a7 I E a0 G K T Y bd;rintro m s d3 ⟨k,F,g,rfl,dd,hk,h1,h6,h8,ba,ci,ch,di,C,a7,I,E,a0,G,K,H⟩;have bd:=C.B;by_cases bu:k<Z z.A
   ·have J:=AK bu;obtain⟨P,r,hd⟩:=Ca hz J;generalize z.A[k]=a at hd J;have e1:k+1-(Z x.A+1)=(k-(Z x.A+1))+1:=AA;have M:AC (EL Bf (R++(z.A.drop (Z x.A+1)).take (k+1-(Z x.A+1))) (g++[my a.nt,str a.B,sl P (Z a.A) (a.A.map str)])):=by
     rw[AC,e1,AT,IJ,show Z x.A+1+(k-(Z x.A+1))=k by omega,J,<-CR];exact EL.append H.o (EL.single ⟨P,rfl⟩)
    have bf:AC (Z R+(k+1-(Z x.A+1))=Z R+(k-(Z x.A+1))+1):=by rw[AC];omega
    have bq:Z R+(k-(Z x.A+1))<=3000:=AA;have T:AC _:=K;clear J H e1;generalize Z R+(k-(Z x.A+1))=q at a0 K T G bf bq;refine mr ?_;refine Ax Ag (λ_=>True) [8,9,10] [0,1,2,3,4,5,6] [7,8,9,10] AH (λ_ _ _ h=>h) ?_;have cg:AD d3 (d3.lay 1):=(AD.refl _).lay 1;intro yb ya;refine m4 ?_;intro B dn aj ak ad ab ac aa;refine mr ?_;refine⟨Z z.A-(k+1),AA,k+1,B,g++[my a.nt,str a.B,sl P (Z a.A) (a.A.map str)],?_⟩;rw[bf.o]
    ((repeat' refine Zi ?_ ?_)<;>first|exact Xq|exact M|exact (ak.put AA _)|exact (Own.put aj _ _)|exact (by rw[AX,T.o];simp;omega)|exact Xs)
   have bv:k=Z z.A:=AA;subst bv;have HQ:AC (G4 z i (Z x.A) (i+1)=R++z.A.drop (Z x.A+1)/\Z R+(Z z.A-(Z x.A+1))=Z (G4 z i (Z x.A) (i+1))/\EL Bf (G4 z i (Z x.A) (i+1)) g):=by
    have h1:=H.o;rw[FZ (by rw[List.length_drop];omega)]at h1;exact⟨HS.o,by rw[HS.o,AX,List.length_drop],by rw[HS.o];exact h1⟩
   have cb:Z R+(Z z.A-(Z x.A+1))=Z (G4 z i (Z x.A) (i+1)):=HQ.o.2.1;rw[cb]at a0 G K;have M:AC (EL Bf (G4 z i (Z x.A) (i+1)) g):=HQ.o.2.2;have T:AC _:=K;clear cb HQ H HS K;refine mr ?_;refine⟨Z x.A-(i+1),AA,i+1,F,g,?_⟩
   ((repeat' refine Zi ?_ ?_)<;>first|exact Xq|exact M|exact G|exact T.o|exact a0|exact Xs)
  have cq:((i:Int) !=(j:Int))=true:=by simp;omega
  have HS:AC (G4 z j (Z x.A) (i+1)=G4 z j (Z x.A) i++[a]):=zO J bh;generalize G4 z j (Z x.A) i=R at a0 G K T Y bi HS;have cu:AC (Z (G4 z j (Z x.A) (i+1))=Z R+1):=by rw[AC,HS.o];simp
  have M:AC (EL Bf (G4 z j (Z x.A) (i+1)) (g++[my a.nt,str a.B,sl P (Z a.A) (a.A.map str)])):=by rw[AC,HS.o];exact EL.append Y.o (EL.single ⟨P,rfl⟩)
  clear J bh Y;refine mr ?_;refine Ax Ag (λ_=>True) [8,9,10] [0,1,2,3,4,5,6] [7,8,9,10] AH (λ_ _ _ h=>h) ?_;have cg:AD f (f.lay 1):=(AD.refl _).lay 1;intro yb ya;refine m4 ?_;intro B dn aj ak ad ab ac aa;refine mr ?_;refine⟨Z x.A-(i+1),AA,i+1,B,g++[my a.nt,str a.B,sl P (Z a.A) (a.A.map str)],?_⟩;rw[cu.o]
  ((repeat' refine Zi ?_ ?_)<;>first|exact Xq|exact M|exact (ak.put AA _)|exact (Own.put aj _ _)|exact (by rw[AX,T.o];simp;omega)|exact Xs)
 have be:i=Z x.A:=AA;subst be;rw[WQ cv]at a0 H;have HE:AJ (Tq j (Z x.A) z) [my false,my z.h.nt,str z.h.B,sl iz (Z z.h.A) (z.h.A.map str),sl F (Z (Tq j (Z x.A) z).A) g]:=⟨[my z.h.nt,str z.h.B,sl iz (Z z.h.A) (z.h.A.map str)],F,g,⟨iz,rfl⟩,H.o,rfl⟩;clear H bi G K;refine mr ?_;exact⟨_,rfl,_,_,true,rfl,HE,.inl ⟨rfl,HL.o⟩,C.put AA _⟩
def uR (l:n0)(x:AB)(j:Nat)(q:Tx):n0:=(l.filter (Fw q)).filterMap (joinL x j)
def YA {l:n0}{x j q i y}(h:l[i]?=some y):uR (l.take (i+1)) x j q=uR (l.take i) x j q++(if Fw q y=true then (joinL x j y).toList else []):=by
 unfold uR;rw[AT,h,IR,List.filterMap_append];congr 1;by_cases a:Fw q y=true;rw[if_pos a];cases b:joinL x j y<;>simp[a,b];rw[if_neg a];simp[a]
def QE (l x j q):Z (uR l x j q)<=Z l:=BI (List.length_filterMap_le _ _) (IS _ _)
def fL (l cs)(G i j:Nat)(x a)(hE:EL AJ l cs)(hl:Z l<=1000)(hf:∀y∈l,y.fits)(h5:∀y∈l,Z y.A<=100)(T:l[i]?=some x)(ha:x.A[j]?=some a)(har:∀y∈l,y.o=false->y.h.B=a.B->Z a.A=Z y.h.A)
  (hs:∀y∈l,∀a,a=y.h\/a∈y.A->∀t∈a.A,Z t<=1001)(d):ni 167 [sl G (Z l) cs,ic i,ic j] d λr z=>∃id c',r=sl id (Z (uR l x j a.B)) c'/\EL AJ (uR l x j a.B) c'/\AD d z:=by
 have bv:=EL.length Cf hE;have bq:=(BA.1 T).1;have bp:=(BA.1 ha).1;have a8:x∈l:=AY T;obtain⟨E,P,bx,rx,a5,bu⟩:=Cv hE T;obtain⟨iax,rax,bm⟩:=Ca a5 ha;have bn:=EL.length A7 a5;have be:=h5 x a8;have HA:AC (x.A[j]?=some a):=ha;have bd:AJ x [my x.o,my x.h.nt,str x.h.B,sl E (Z x.h.A) (x.h.A.map str),sl P (Z x.A) bx]:=⟨[my x.h.nt,str x.h.B,sl E (Z x.h.A) (x.h.A.map str)],P,bx,⟨E,rfl⟩,a5,rfl⟩;have HF:AC (x.fits):=hf x a8;clear ha T;refine Z9 60 [.tmp 6] Tryz.func167 ?_;refine mr ?_
 refine Ae (λm s z=>∃(k A:Nat) (u:oh),m=Z l-k/\k<=Z l/\s 0=sl G (Z l) cs/\s 1=ic i/\s 2=ic j/\s 7=sl A (Z (uR (l.take k) x j a.B)) u/\s 8=ic k/\AD d z/\Own d z A (Z (uR (l.take k) x j a.B))/\Z u=Z (uR (l.take k) x j a.B)*5/\AC (EL AJ (uR (l.take k) x j a.B) u)) (Z l)
  ⟨0,1,[],AA,AA,by simp[upd,AL],by simp[upd,AL],by simp[upd,AL],by simp[upd,uR],AG,AD.refl _,Own.nil _ _,by simp[uR],by simp[AC,uR,EL]⟩ ?_
 rintro m s z ⟨k,A,u,rfl,hk,h0,h1,h2,h7,h8,M,L,a3,N⟩;have bc:=M.B;have U:=QE (l.take k) x j a.B;rw[CN]at U;by_cases bb:k<Z l
 ·have Y:=AK bb;have R:=AR bb;obtain⟨ih,id,b,r,hb,hd⟩:=Cv hE Y;generalize l[k]=y at Y R hb hd;have HS:AC _:=YA (x:=x) (j:=j) (q:=a.B) Y;have a7:AJ y [my y.o,my y.h.nt,str y.h.B,sl ih (Z y.h.A) (y.h.A.map str),sl id (Z y.A) b]:=⟨[my y.h.nt,str y.h.B,sl ih (Z y.h.A) (y.h.A.map str)],id,b,⟨ih,rfl⟩,hb,rfl⟩;have J:AC _:=N;clear Y N;cases I:Fw a.B y with
  |false=>
   have C:AC (uR (l.take (k+1)) x j a.B=uR (l.take k) x j a.B):=by rw[AC,HS.o,I];simp
   have c:(!y.o&&y.h.B==a.B)=false:=by rw[<-I,Fw];congr 1;by_cases e:y.h.B=a.B<;>simp[e]
   clear I HS a7;generalize uR (l.take k) x j a.B=V at h7 L a3 J C U;cases a9:y.o with
   |true=>
    rw[a9]at c;clear c;refine mr ?_;refine Ax Ag (λ_=>True) [] [0,1,2,3,4,5,6,7,8,9,10,11,12,13,14,15,16,17,18,19,20,21,22,23] [] AH (λ_ _ _ h=>h) ?_;intro yb ya;refine mr ?_;refine⟨Z l-(k+1),AA,k+1,A,u,?_⟩;rw[C.o];exact m9 J
   |false=>
    have bg:(y.h.B==a.B)=false:=by rw[a9]at c;simpa using c
    clear c;refine mr ?_;refine Ax Ag (λ_=>True) [] [0,1,2,3,4,5,6,7,8,9,10,11,12,13,14,15,16,17,18,19,20,21,22,23] [] AH (λ_ _ _ h=>h) ?_;intro yb ya;refine mr ?_;refine⟨Z l-(k+1),AA,k+1,A,u,?_⟩;rw[C.o];exact m9 J
  |true=>
   have K:AC (uR (l.take (k+1)) x j a.B=uR (l.take k) x j a.B++(joinL x j y).toList):=by rw[AC,HS.o,I];simp
   have c:y.o=false/\y.h.B=a.B:=by simpa[Fw]using I
   obtain⟨ba,a4⟩:=c;have W:=λd=>nM x y _ _ j a bd a7 HF.o (hf y R) be (h5 y R) HA.o (har y R ba a4) (hs y R) d;rw[ba]at W;have bg:(y.h.B==a.B)=true:=nn a4;clear I HS a4;generalize uR (l.take k) x j a.B=V at h7 L a3 J K U;refine mr ?_;refine Ax Ag (λ_=>True) [] [0,1,2,3,4,5,6,7,8,9,10,11,12,13,14,15,16,17,18,19,20,21,22,23] [] AH (λ_ _ _ h=>h) ?_;intro yb ya;refine mr ?_;refine A2 (Q:=λe B D=>e= .normal/\B 0=sl G (Z l) cs/\B 1=ic i/\B 2=ic j/\B 7=sl A (Z V) u/\B 8=ic k/\AD z D/\∃w g p n ok O,B 9=ptr O 0/\B 10=my ok/\EL Bf w.A n/\TR x j y w ok/\z.B<=O/\O<D.B/\D.C O=[my w.o,my w.h.nt,str w.h.B,sl g (Z w.h.A) (w.h.A.map str),sl p (Z w.A) n]) ?_ ?_
   ·refine Ar Ag (λ_=>True) [] [0,1,2,3,4,5,6,7,8] 7 (nv 16 511) AH (λ_ _ _ h=>by cases h.1) ?_;intro yb ya;refine Z3 ?_;refine ya.o _ ?_;clear ya yb;refine D8 (rs:=[9,13]) AH nk ?_;intro i hi;simp only[BD,EK,DZ]at hi;rcases hi with rfl|rfl
    ·refine Am ?_;intro yb ya;refine Z3 ?_;refine AF.mono (W _) ?_;rintro _ X ⟨w,cy0,ok,rfl,F,S,f⟩;obtain⟨g,p,n,an,rfl⟩:=F.cells;unfold A4;refine Z3 ?_;refine ya.o _ _ ⟨Al f,?_⟩;clear ya yb;have am:=f.B;refine Bu (i:=10) _ (tp [ag [my w.o,my w.h.nt,str w.h.B,sl g (Z w.h.A) (w.h.A.map str),sl p (Z w.A) n],my ok]) rfl rfl rfl rfl rfl AH AH (λ_ _ _ h=>by cases h.1) (λo c _=>f.ver o c) ?_;refine Bu (i:=11) _ (ag [my w.o,my w.h.nt,str w.h.B,sl g (Z w.h.A) (w.h.A.map str),sl p (Z w.A) n]) rfl rfl rfl rfl rfl AH AH (λ_ _ _ h=>by cases h.1) (λo c _=>f.ver o c) ?_;refine Bu (i:=12) _ (my ok) rfl rfl rfl rfl rfl AH AH (λ_ _ _ h=>by cases h.1) (λo c _=>f.ver o c) ?_;refine Ai (i:=13) AH ?_;refine Am ?_;intro yb ya;refine Z3 ?_;refine ya.o _ _ ⟨Al (f.new _),?_⟩;clear ya yb;refine Ai (i:=14) AH ?_;refine Am ?_;intro yb ya;refine Z3 ?_;refine ya.o _ _ ⟨Al ((f.new _).put AA _),?_⟩;clear ya yb;refine Ai (i:=15) AH ?_;refine Am ?_;intro yb ya;refine Z3 ?_;refine ya.o _ _ ⟨Al ((f.new _).put AA _),?_⟩;clear ya yb;refine Aw AH ⟨rfl,AI,AI,AI,AI,AI,(f.new _).put AA _,w,g,p,n,ok,X.B,AG,AG,an,S,AA,BJ,Ak⟩
    refine Am ?_;intro yb ya;refine Z3 ?_;refine ya.o _ _ ⟨Al ((AD.refl _).new _),?_⟩;clear ya yb;refine Ai (i:=9) AH ?_;refine Am ?_;intro yb ya;refine Z3 ?_;refine AF.mono (W _) ?_;rintro _ X ⟨w,cy0,ok,rfl,F,S,f⟩;obtain⟨g,p,n,an,rfl⟩:=F.cells;unfold A4;have v:AD z X:=((AD.refl z).new _).trans f;have am:=f.B;have az:=f.C z.B AM;rw[Ao]at az;simp only[Aa]at am;refine Z3 ?_;refine ya.o _ _ ⟨Al v,?_⟩;clear ya yb;refine Bu (i:=10) _ (tp [ag [my w.o,my w.h.nt,str w.h.B,sl g (Z w.h.A) (w.h.A.map str),sl p (Z w.A) n],my ok]) rfl rfl rfl rfl rfl AH AH (λ_ _ _ h=>by cases h.1) (λo c _=>v.ver o c) ?_;refine Bu (i:=11) _ (ag [my w.o,my w.h.nt,str w.h.B,sl g (Z w.h.A) (w.h.A.map str),sl p (Z w.A) n]) rfl rfl rfl rfl rfl AH AH (λ_ _ _ h=>by cases h.1) (λo c _=>v.ver o c) ?_;refine Bu (i:=12) _ (my ok) rfl rfl rfl rfl rfl AH AH (λ_ _ _ h=>by cases h.1) (λo c _=>v.ver o c) ?_;refine Ai (i:=14) AH ?_;refine Am ?_;intro yb ya;refine Z3 ?_;refine ya.o _ _ ⟨Al (v.put (AU _) _),?_⟩;clear ya yb;refine Ai (i:=15) AH ?_;refine Am ?_;intro yb ya;refine Z3 ?_;refine ya.o _ _ ⟨Al (v.put (AU _) _),?_⟩;clear ya yb;refine Aw AH ⟨rfl,AI,AI,AI,AI,AI,v.put (AU _) _,w,g,p,n,ok,z.B,AG,AG,an,S,AA,by simp only[Ac];omega,Ak⟩
   rintro e B X ⟨rfl,h0,h1,h2,h7,h8,f,w,g,p,n,ok,O,h9,bw,F,S,bo,br,bf⟩;have am:=f.B;have a6:=Own.keep L f;have v:=M.trans f;clear W L M bc f;rcases S with⟨rfl,H⟩|⟨rfl,H⟩
   ·have bh:AC (Z (uR (l.take (k+1)) x j a.B)=Z V+1):=by rw[AC,K.o,H];simp
    have C:AC (EL AJ (uR (l.take (k+1)) x j a.B) (u++[my w.o,my w.h.nt,str w.h.B,sl g (Z w.h.A) (w.h.A.map str),sl p (Z w.A) n])):=by
     rw[AC,K.o,H];exact EL.append J.o (EL.single ⟨[my w.h.nt,str w.h.B,sl g (Z w.h.A) (w.h.A.map str)],p,n,⟨g,rfl⟩,F,rfl⟩)
    clear H K F;have M:=v;have L:=a6;have a0:AC _:=a3;clear v a6;refine m5 ?_;intro yb ya;intro idn dn aj ak ae ab ad aa;refine mr ?_;refine⟨Z l-(k+1),AA,k+1,idn,u++[my w.o,my w.h.nt,str w.h.B,sl g (Z w.h.A) (w.h.A.map str),sl p (Z w.A) n],?_⟩;rw[bh.o]
    ((repeat' refine Zi ?_ ?_)<;>first|exact Xq|exact C|exact (by rw[AX,a0.o];simp;omega)|exact Xs)
   have C:AC (uR (l.take (k+1)) x j a.B=V):=by rw[AC,K.o,H];simp
   clear H K F;refine mr ?_;refine⟨Z l-(k+1),AA,k+1,A,u,?_⟩;rw[C.o];exact ng J v a6
 have bi:k=Z l:=AA;subst bi;rw[AS]at h7 N;clear U;refine mr ?_
 first|exact⟨_,rfl,A,u,rfl,N.o,M⟩|exact⟨_,rfl,A,u,rfl,N.o⟩
def Nr {I:AB->Prop}{j n}(f:∀z u t,I z->(∃a∈z.A,t∈a.A)->I (Dj u t z)):∀{m k:Nat} {z g:AB},I z->Kj j n m k z=some g->I g
 |0,k,z,g,h,e=>by
  rw[Kj]at e;cases e;exact h
 |m+1,k,z,g,h,e=>by
  rw[Kj]at e;cases c:z.A[j]? with
  |none=>rw[c]at e;cases e
  |some a=>
   cases d:z.A[n]? with
   |none=>rw[c,d]at e;simp at e
   |some b=>
    cases l:a.A[k]? with
    |none=>rw[c,d]at e;simp[l]at e
    |some t=>
     cases i:b.A[k]? with
     |none=>rw[c,d]at e;simp[i]at e
     |some u=>
      rw[c,d]at e;simp only[FU,l,i]at e;have o:∃a∈z.A,t∈a.A:=⟨a,AY c,AY l⟩;have p:∃a∈z.A,u∈a.A:=⟨b,AY d,AY i⟩;split at e;exact Nr f h e;split at e;exact Nr f (f z u t h o) e;split at e;exact Nr f (f z t u h p) e;cases e
def ES (P:AE->Prop)(z:AB):Prop:=P z.h/\∀a∈z.A,P a
def ES.put {P z}(h:ES P z){u t}(c:∀a,P a->P (F8 u t a)):ES P (Dj u t z):=
 ⟨c _ h.1,λa e=>by
  obtain⟨b,d,rfl⟩:=AN.1 e
  exact c b (h.2 b d)⟩
def YL {j n z a}(h:a∈(Tq j n z).A):a∈z.A:=by
 simp only[Tq,AW]at h;rcases h with (h|h)|h;exact JI (JI h);exact List.mem_of_mem_drop h;exact JI (List.mem_of_mem_drop h)
def ES.end {P z}(h:ES P z)(j n):ES P (Tq j n z):=⟨h.1,λa b=>h.2 a (YL b)⟩
def LQ (a:AE):Prop:=Z a.B<=1000/\Z a.A<=1000/\∀t∈a.A,Z t<=901
def WK {x y w j}(g:ES LQ x)(i:ES LQ y)(q:∀a,a=y.h\/a∈y.A->∀t∈a.A,Z t<=900)(h:joinL x j y=some w):ES LQ w:=by
 unfold joinL at h;cases d:Kj j (Z x.A) (Z y.h.A) 0 (Pv x y)with
 |none=>rw[d]at h;cases h
 |some z=>
  rw[d]at h;cases h;refine ES.end (Nr (I:=ES LQ) (λz u t d ⟨a,c,n⟩=>d.put λb e=>⟨e.1,by simpa[F8]using e.2.1,λv f=>?_⟩) ?_ d) _ _;simp only[F8,AN]at f;obtain⟨o,p,rfl⟩:=f;split;exact (d.2 a c).2.2 t n;exact e.2.2 o p;have m:∀a,a=y.h\/a∈y.A->LQ (Gz a):=λa c=>by
   have l:LQ a:=by
    rcases c with rfl|c;exact i.1;exact i.2 a c
   refine⟨l.1,by simpa[Gz]using l.2.1,λt k=>?_⟩;simp only[Gz,AN]at k;obtain⟨v,f,rfl⟩:=k;have:=q a c v f;unfold Ta;split;simp;omega;omega
  refine⟨g.1,λa c=>?_⟩;simp only[Pv,AW,BD,AN]at c;rcases c with c|rfl|⟨b,e,rfl⟩;exact g.2 a c;exact m _ (.inl rfl);exact m b (.inr e)
def WM {j n m k z a}(h:Kj j n m k z=some a):Z a.A=Z z.A:=
 Nr (I:=λw=>Z w.A=Z z.A) (λw u t b _=>by simpa[Dj]using b) rfl h
def WL {x y w j}(h:joinL x j y=some w):Z w.A<=Z x.A+Z y.A+Z x.A:=by
 unfold joinL at h;cases a:Kj j (Z x.A) (Z y.h.A) 0 (Pv x y)with
 |none=>rw[a]at h;cases h
 |some z=>
  rw[a]at h;cases h;have:=WM a;simp[Pv]at this;simp[Tq];omega
def gr {l x w j q}(h:w∈uR l x j q):∃y∈l,Fw q y=true/\joinL x j y=some w:=by
 obtain⟨y,a,b⟩:=List.mem_filterMap.1 h;exact⟨y,(BP.1 a).1,(BP.1 a).2,b⟩
def NQ (l:n0):Prop:=∀y∈l,∀a,a=y.h\/a∈y.A->∀t∈a.A,Z t<=900
def NQ.sht {l}(h:NQ l)(c:∀x∈l,x.fits/\x.short){x}(b:x∈l):ES LQ x:=
 ⟨⟨(c x b).2.1.1,(c x b).2.1.2.1,λt d=>Nat.le_succ_of_le (h x b _ (.inl rfl) t d)⟩,λa e=>⟨((c x b).2.2 a e).1,((c x b).2.2 a e).2.1,λt d=>Nat.le_succ_of_le (h x b _ (.inr e) t d)⟩⟩
def TE {l}(h:NQ l)(k:∀x∈l,x.fits/\x.short)(f:∀x∈l,Z x.A<=5){x w}(g:x∈l){j q}(m:w∈uR l x j q):w.fits/\w.short:=by
 obtain⟨y,d,-,i⟩:=gr m;have b:=WK (h.sht k g) (h.sht k d) (h y d) i;have n:=WL i;have o:=f x g;have e2:=f y d;exact⟨⟨AA,b.1.2.1,λa c=>(b.2 a c).2.1⟩,⟨b.1.1,b.1.2.1,λt e=>by have:=b.1.2.2 t e;omega⟩,λa c=>⟨(b.2 a c).1,(b.2 a c).2.1,λt e=>by have:=(b.2 a c).2.2 t e;omega⟩⟩
def okD (l:n0)(i:Nat)(x:AB)(j:Nat)(a:AE):Bool:=!a.nt&&(F7 l a.B&&(!J2 l a.B a.B&&Bb l (rpl i (uR l x j a.B) l)))
def ON (l:n0)(n:Nat):Prop:=∀i x,i<n->l[i]?=some x->∀j a,x.A[j]?=some a->okD l i x j a=false
def LV (l:n0)(o:Option n0):Prop:=
 (o=none/\ON l (Z l))\/∃i x j a,o=some (rpl i (uR l x j a.B) l)/\l[i]?=some x/\x.A[j]?=some a/\okD l i x j a=true/\ON l i/\∀b c,b<j->x.A[b]?=some c->okD l i x b c=false
def aM (l cs idl)(u:EL AJ l cs)(hl:Z l<=16)(T:∀x∈l,x.fits/\x.short)(h5:∀x∈l,Z x.A<=5)(hT:NQ l)(har:∀x∈l,∀a∈x.A,∀y∈l,y.o=false->y.h.B=a.B->Z a.A=Z y.h.A)(d):
  ni 110 [sl idl (Z l) cs] d λr D=>∃o m id c',r=tp [sl id (Z m) c',my o.isSome]/\LV l o/\(∀K,o=some K->m=K)/\EL AJ m c'/\AD d D:=by
 have bd:=EL.length Cf u;have v:=λp d=>W4 l cs idl p u hl d;have z:=λp d=>Sy l cs idl p p u hl (λx hx=>(T x hx).1) d;refine Z9 61 [.tmp 2,.tmp 3] Tryz.func110 ?_;refine mr ?_
 refine Ae (λq s D=>∃i:Nat,q=Z l-i/\i<=Z l/\s 0=sl idl (Z l) cs/\s 4=ic i/\AD d D/\AC (ON l i)) (Z l)
  ⟨0,AA,AA,by simp[upd,AL],AG,AD.refl _,λQ V h=>AA⟩ ?_
 rintro q s D ⟨i,rfl,hi,h0,h4,G,L⟩;have a0:=G.B;by_cases U:i<Z l
 ·have I:AC (l[i]?=some l[i]):=AK U;obtain⟨jh,jd,jb,r2,aw,a7⟩:=Cv u I.o;have X:=AR U;generalize l[i]=x at I aw a7 X;have ba:=h5 x X;have bb:=EL.length A7 aw
  refine mr ?_
  refine Ae (λq s D=>∃j:Nat,q=Z x.A-j/\j<=Z x.A/\s 0=sl idl (Z l) cs/\s 4=ic i/\s 5=ic j/\AD d D/\AC (∀c n,c<j->x.A[c]?=some n->okD l i x c n=false)) (Z x.A)
   ⟨0,AA,AA,by simp[upd,h0],by simp[upd,h4],AG,G,λk' n h=>AA⟩ ?_
  clear h0 h4 G a0;rintro q s D ⟨j,rfl,hj,h0,h4,bh,G,J⟩;have a0:=G.B;by_cases am:j<Z x.A
  ·have M:AC (x.A[j]?=some x.A[j]):=AK am;obtain⟨ia,ra,a6⟩:=Ca aw M.o;have a3:=AR am;generalize x.A[j]=a at M a6 a3;have O:=λd=>fL l cs idl i j x a u AA (λy k=>(T y k).1) (λy k=>by have:=h5 y k;omega) I.o M.o (har x X a a3) (λy k b hb t ht=>by have:=hT y k b hb t ht;omega) d;have a4:=QE l x j a.B;have H:=λC S (W:EL AJ (uR l x j a.B) S) d=>G7 l (uR l x j a.B) cs S idl C i u W AA AA U d
   have F:=λY cm (hm:EL AJ (rpl i (uR l x j a.B) l) cm) d=>Gd l (rpl i (uR l x j a.B) l) cs cm idl Y u hm AA (by rw[I4 U];simp;omega) (λy k=>by
    rcases Cy k with k|k
    ·exact T y k
    exact TE hT T h5 X k) d
   have g:AC (okD l i x j a=false->∀c n,c<j+1->x.A[c]?=some n->okD l i x c n=false):=λh c n bc A=>by
    by_cases e:c=j
    ·subst e;rw[M.o]at A;cases A;exact h
    exact J.o c n AA A
   have E:AC (okD l i x j a=true->LV l (some (rpl i (uR l x j a.B) l))):=λh=>.inr ⟨i,x,j,a,rfl,I.o,M.o,h,L.o,J.o⟩;have f:AC (okD l i x j a=(!a.nt&&(F7 l a.B&&(!J2 l a.B a.B&&Bb l (rpl i (uR l x j a.B) l))))):=rfl;have v:=v a.B;have z:=z a.B;generalize okD l i x j a=od at g E f;generalize Bb l (rpl i (uR l x j a.B) l)=ab at F f;generalize rpl i (uR l x j a.B) l=R at H F E;generalize uR l x j a.B=ul at O H a4;generalize F7 l a.B=rb at v f;generalize J2 l a.B a.B=ub at z f;clear J;cases N:a.nt with
   |true=>
    have B:AC _:=g.o (by rw[f.o,N];rfl);clear g E f O H F v z;refine mr ?_;refine⟨Z x.A-(j+1),AA,j+1,?_⟩;exact m9 B
   |false=>
    cases rb with
    |false=>
     have B:AC _:=g.o (by rw[f.o];simp);clear g E f O H F z;refine m0 ?_;intro yb ya;refine Xi (v _) ?_;rintro _ _ ⟨rfl,rfl⟩;refine mr ?_;refine⟨Z x.A-(j+1),AA,j+1,?_⟩;exact m9 B
    |true=>
     cases ub with
     |true=>
      have B:AC _:=g.o (by rw[f.o];simp);clear g E f O H F;refine m0 ?_;intro yb ya;(first|(refine Xi (v _) ?_;rintro _ _ ⟨rfl,rfl⟩)|(refine Xi (z _) ?_;rintro _ _ ⟨rfl,a8⟩));refine mz ?_;(first|(refine Xi (v _) ?_;rintro _ _ ⟨rfl,rfl⟩)|(refine Xi (z _) ?_;rintro _ _ ⟨rfl,a8⟩));refine mr ?_;refine⟨Z x.A-(j+1),AA,j+1,?_⟩;exact m9 B
     |false=>
      repeat' first|refine Z1 ?_|refine Z8 λyb ya=>?_|refine Z4 ?_;clear ya yb|refine Z2 ?_ ?_<;>intro h aa<;>try exact Xp|(refine Z5 ?_;first|(refine Xi (v _) ?_;rintro _ _ ⟨rfl,rfl⟩)|(refine Xi (z _) ?_;rintro _ _ ⟨rfl,a8⟩)|(refine Xi (O _) ?_;rintro _ _ ⟨C,S,rfl,W,bg⟩;(have ax:=H C S W;clear W))|(refine Xi (ax _) ?_;rintro _ _ ⟨P,cr,rfl,ay,bf⟩;(have az:=F P cr ay;have a9:AC _:=ay;clear ay))|(refine Xi (az _) ?_;rintro _ _ ⟨rfl,be⟩;(cases ab)))|refine Z3 ?_|exact Zt|apply ya.o;clear ya yb
      ·have B:AC _:=g.o (by rw[f.o];simp);clear g E f;refine⟨Z x.A-(j+1),AA,j+1,?_⟩
       exact m9 B
      exact⟨_,rfl,some R,R,P,cr,rfl,E.o (by rw[f.o,N];rfl),(by intro K h;cases h;rfl),a9.o,Xs⟩
  have a5:j=Z x.A:=AA;have g:AC (ON l (i+1)):=λQ V h1 h2 c n A=>by
   by_cases e:Q=i
   ·subst e;rw[I.o]at h2;cases h2;exact J.o c n (by have:=(BA.1 A).1;omega) A
   exact L.o Q V AA h2 c n A
  clear J L;refine mr ?_;refine⟨Z l-(i+1),AA,i+1,?_⟩;exact m9 g
 have HR:AC (LV l none):=.inl ⟨rfl,λQ V h h'=>L.o Q V AA h'⟩;clear L;refine mr ?_
 first|exact⟨_,rfl,none,l,idl,cs,rfl,HR.o,(by intro K h;cases h),u,G⟩|exact⟨_,rfl,none,l,idl,cs,rfl,HR.o,(by intro K h;cases h),u⟩
def JN.len {t}(h:JN t):Z t<=900:=by
 rcases h with⟨b,rfl,-⟩|rfl|⟨b,r,rfl,-,-,h⟩;simp;simp;simp;omega
def EN.tms {l}(h:EN l):NQ l:=λy j a b t c=>by
 have e:=h.rt.2.1 y j;cases d:y.o with
 |true=>
  obtain⟨-,f,i⟩:=e.o d;rcases b with rfl|b;rw[f]at c;cases c;rw[i]at b;cases b
 |false=>
  obtain⟨g,-,-,k⟩:=e.rule d;rcases b with rfl|b;exact (g.tm t c).len;exact ((k a b).tm t c).len
def EN.ars {l}(h:EN l):∀x∈l,∀a∈x.A,∀y∈l,y.o=false->y.h.B=a.B->Z a.A=Z y.h.A:=λx e a b y j i g=>by
 obtain⟨N,k,d⟩:=h.rt.1;have c:x.o=false:=by
  cases f:x.o with
  |false=>rfl
  |true=>rw[((h.rt.2.1 x e).o f).2.2]at b;cases b
 rw[((d.ru x e c).A a b).len,(d.ru y j i).h.len,g]
def l9:FO LV 117:=λl A n g C d=>by
 have c:=g.p;have z:=λd=>aM l A n C c.len c.fs c.b5 g.tms g.ars d;have E:((((117:UInt8).toNat:Nat):Int)==115)=false:=rfl;have e2:((((117:UInt8).toNat:Nat):Int)==97)=false:=rfl;have F:((((117:UInt8).toNat:Nat):Int)==114)=false:=rfl;have G:((((117:UInt8).toNat:Nat):Int)==117)=true:=rfl;have v:AC (∀o,LV l o->∀b,o=some b->wB b):=λo h b e=>by
  subst e;rcases h with⟨h,-⟩|⟨i,x,j,a,h,hx,-,ht,-⟩;cases h;cases h;have u:Bb l (rpl i (uR l x j a.B) l)=true:=by
   simp only[okD,BM]at ht;exact ht.2.2.2
  exact⟨(Gi u).1,(Gi u).2,λy f=>by
   rcases Cy f with f|f;exact c.fs y f
   exact TE g.tms c.fs c.b5 (AY hx) f⟩
 clear c;refine Z9 35 [.tmp 4,.tmp 5] Tryz.func63 ?_;refine m0 ?_;intro yb ya;refine Xi (z _) ?_;rintro _ _ ⟨o,m,id,r,rfl,p,q,s,D⟩;(have k:AC _:=p;have B:AC _:=q;clear p q);refine mr ?_;have t:AC (∀b,o=some b->m=b/\wB b):=λb e=>⟨B.o b e,v.o o k.o b e⟩
 first|exact⟨_,rfl,o,m,id,r,rfl,k.o,t.o,s,D⟩|exact⟨_,rfl,o,m,id,r,rfl,k.o,t.o,s⟩
end Go.Proofs.YtmoeoppbmhfbpabGreatDoorJ
