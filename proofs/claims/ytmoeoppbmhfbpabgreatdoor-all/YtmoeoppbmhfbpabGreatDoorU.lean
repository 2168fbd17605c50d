import Derived.Test.YtmoeoppbmhfbpabGreatDoorS
set_option maxHeartbeats 64000000
set_option maxRecDepth 100000
set_option linter.all false
open List
open List renaming length->Z
namespace Go.Proofs.YtmoeoppbmhfbpabGreatDoorJ
open Go.Abs Tryz
def Pv (x y:AB):AB:=⟨false,x.h,x.A++Gz y.h::y.A.map Gz⟩
def Kj (j n:Nat):Nat->Nat->AB->Option AB
 |0,_,z=>some z
 |m+1,k,z=>match (z.A[j]?).bind (·.A[k]?),(z.A[n]?).bind (·.A[k]?)with
  |some t,some u=>if t=u then Kj j n m (k+1) z else if Ab u=true then Kj j n m (k+1) (Dj u t z)else if Ab t=true then Kj j n m (k+1) (Dj t u z)else none
  |_,_=>none
def Tq (j n:Nat)(z:AB):AB:=⟨false,z.h,(z.A.take n).take j++z.A.drop (n+1)++(z.A.take n).drop (j+1)⟩
def joinL (x:AB)(j:Nat)(y:AB):Option AB:=(Kj j (Z x.A) (Z y.h.A) 0 (Pv x y)).map (Tq j (Z x.A))
def TR (x:AB)(j:Nat)(y w:AB)(ok:Bool):Prop:=(ok=true/\joinL x j y=some w)\/(ok=false/\joinL x j y=none)
def eI {j n m k z a b t u}(d:z.A[j]?=some a)(c:z.A[n]?=some b)(f:a.A[k]?=some t)(e:b.A[k]?=some u):
  Kj j n (m+1) k z=if t=u then Kj j n m (k+1) z else if Ab u=true then Kj j n m (k+1) (Dj u t z)else if Ab t=true then Kj j n m (k+1) (Dj t u z)else none:=by rw[Kj,d,c];simp only[FU,f,e]
def dQ (a f)(c:Z a.A<=1000)(e:∀t∈a.A,Z t<=1001)(d):ni 235 [ag [my a.nt,O a.B,lw f a.A]] d λg b=>∃i,g=ag [my a.nt,O a.B,sl i (Z a.A) ((Gz a).A.map O)]/\W d b:=lW a _ ⟨f,rfl⟩ c e d
def wG (a i):Bf (Gz a) [my a.nt,O a.B,sl i (Z a.A) ((Gz a).A.map O)]:=⟨i,by simp[Gz]⟩
def qK (x ih id b v t)(i:r Bf x.A b)(j:x.fits)(d):ni 236 [ag (ko x ih id b),O v,O t] d λo g=>∃e f a,o=ag [my ((Dj v t x).o),my ((Dj v t x).h.nt),O (Dj v t x).h.B,sl e (Z (Dj v t x).h.A) ((Dj v t x).h.A.map O),sl f (Z (Dj v t x).A) a]/\r Bf (Dj v t x).A a/\W d g:=
 (dK x _ v t ⟨[my x.h.nt,O x.h.B,lw ih x.h.A],id,b,⟨ih,rfl⟩,i,rfl⟩ j d).mono λo g ⟨c,n,k,l⟩=>by obtain⟨e,f,a,m,rfl⟩:=k.cells;exact⟨e,f,a,n,m,l⟩
def GC (x y:AB)(j k:Nat)(z:AB):Prop:=z.fits/\z.o=false/\Z z.A=Z x.A+1+Z y.A/\(∃a,z.A[j]?=some a/\Z a.A=Z y.h.A)/\(∃a,z.A[Z x.A]?=some a/\Z a.A=Z y.h.A)/\
 Kj j (Z x.A) (Z y.h.A) 0 (Pv x y)=Kj j (Z x.A) (Z y.h.A-k) k z
def XV {x y}(d:x.fits)(e:y.fits)(f:Z x.A<=100)(g:Z y.A<=100):(Pv x y).fits:=
 ⟨by simp[Pv];omega,d.2.1,λa c=>by
  simp only[Pv,AW,BD,AN]at c;obtain c|rfl|⟨b,i,rfl⟩:=c;exact d.2.2 a c;simpa[Gz]using e.2.1
  simpa[Gz]using e.2.2 b i⟩
def GC.start {x y j a}(e:x.fits)(g:y.fits)(c:Z x.A<=100)(d:Z y.A<=100)(b:x.A[j]?=some a)(f:Z a.A=Z y.h.A):GC x y j 0 (Pv x y):=
 ⟨XV e g c d,rfl,by simp[Pv];omega,⟨a,by
  have:=(BA.1 b).1
  rw[Pv,MB this];exact b,f⟩,⟨Gz y.h,by simp[Pv],by simp[Gz]⟩,rfl⟩
def lU {v t z}{i:Nat}{a}(h:z.A[i]?=some a):(Dj v t z).A[i]?=some (F8 v t a):=by simp[Dj,h]
def GC.put {x y j k z}(h:GC x y j k z){v t}(f:Kj j (Z x.A) (Z y.h.A-k) k z=Kj j (Z x.A) (Z y.h.A-(k+1)) (k+1) (Dj v t z)):GC x y j (k+1) (Dj v t z):=by let⟨l,n,g,⟨a,e,b⟩,⟨m,d,i⟩,c⟩:=h;exact⟨dP l,rfl,by simpa[Dj]using g,⟨_,lU e,by simpa[F8]using b⟩,⟨_,lU d,by simpa[F8]using i⟩,c.trans f⟩
def G4 (z:AB)(j n i:Nat):oq:=if i<=j then z.A.take i else z.A.take j++z.A.drop (n+1)++(z.A.take i).drop (j+1)
def zO {z j n i a}(h:z.A[i]?=some a)(c:i≠j):G4 z j n (i+1)=G4 z j n i++[a]:=by unfold G4;by_cases b:i<=j;rw[if_pos L,if_pos b,AT,h];rfl;have d:=(BA.1 h).1;rw[if_neg L,if_neg b,AT,h,NG (by simp;omega)];simp
def ZW {z j n}:G4 z j n (j+1)=G4 z j n j++z.A.drop (n+1):=by unfold G4;have e:(z.A.take (j+1)).drop (j+1)=[]:=JU (by rw[CN];omega);rw[if_neg L,if_pos (AU _),e,EJ]
def WO {z j n i}:Z (G4 z j n i)<=Z z.A+Z z.A+Z z.A:=by rw[G4];split;simp;omega;simp;omega
def WQ {z j n}(h:j<n):G4 z j n n=(Tq j n z).A:=by rw[G4,Tq];rw[if_neg L,take_take,ER L]
def GC.last {x y j z}(h:GC x y j (Z y.h.A) z):joinL x j y=some (Tq j (Z x.A) z):=by rw[joinL,h.2.2.2.2.2,GX];rfl
def nM (x y c cy)(j:Nat)(b0)(hc:AJ x c)(c5:AJ y cy)(hx:x.fits)(hy:y.fits)(h5:Z x.A<=100)(cp:Z y.A<=100)(ce:x.A[j]?=some b0)(c7:Z b0.A=Z y.h.A)
  (hs:∀a,a=y.h\/a∈y.A->∀t∈a.A,Z t<=1001)(d):ni 201 [ag c,Y j,ag cy] d λah A=>∃w cw ok,ah=tp [ag cw,my ok]/\AJ w cw/\TR x j y w ok/\W d A:=by
 have cc:=hc;obtain⟨q,id,ai,hb,rfl⟩:=hc.cells;obtain⟨af,ao,am,cd,rfl⟩:=c5.cells;unfold A4 at cc⊢;have dh:=r.length A7 hb;have c6:=r.length A7 cd;have b4:=λd=>dQ y.h af hy.2.1 (hs _ (.inl rfl)) d;refine Z9 153 [.cell 6 110,.tmp 7] func201 ?_;refine X ?_
 refine Ae (λm s A=>∃(i F:Nat) (g:oh),m=Z x.A-i/\i<=Z x.A/\s 1=Y j/\s 3=ptr d.B 0/\s 5=ptr (d.B+1) 0/\s 6=ptr (d.B+2) 0/\s 8=ptr (d.B+3) 0/\s 9=Y i/\W d A/\d.B+3<A.B/\A.C d.B=(ko x q id ai)/\A.C (d.B+1)=(ko y af ao am)/\A.C (d.B+2)=[my false,my false,O [],H,H]/\A.C (d.B+3)=[my false,my x.h.nt,O x.h.B,lw q x.h.A,sl F i g]/\J d A F i/\Z g=i*3/\V (r Bf (x.A.take i) g)) (Z x.A)
  ⟨0,1,[],L,L,by simp[upd,AL],AG,AG,AG,AG,AG,Xs,BJ,?_,?_,?_,?_,J.nil _ _,nk,by simp[V,r]⟩ ?_
 ·rw[Aj L,Ah AM,Ah AM,Ah AM,Ao]
 ·rw[Aj L,Ah AM,Ah AM,Be AM AM]
 ·rw[Aj L,Ah AM,Be AM AM]
 ·rw[show d.B+3=d.B+1+1+1 by omega,Ak]
 rintro m s A ⟨i,F,g,rfl,hi,h1,h3,bc,h6,h8,h9,C,v,p,N,I,E,G,K,b⟩;have a5:=C.B;by_cases az:i<Z x.A
 ·have e:=AK az;obtain⟨P,ah,hd⟩:=Ca hb e;generalize x.A[i]=a at hd e;have M:V (r Bf (x.A.take (i+1)) (g++[my a.nt,O a.B,lw P a.A])):=by
   rw[V,AT,e];exact r.append b.o (r.single ⟨P,rfl⟩)
  clear e b b4;refine X ?_;refine Ax Ag (λ_=>True) [8,9,10] [0,1,2,3,4,5,6] [7,8,9,10] AH (λ_ _ _ h=>h) ?_;have cg:W A (A.lay 1):=(W.refl _).lay 1;intro yb ya;refine m4 ?_;intro B dn aj ak ad ab ac aa;refine X ?_;refine⟨Z x.A-(i+1),L,i+1,B,g++[my a.nt,O a.B,lw P a.A],?_⟩
  ((repeat' refine Zi ?_ ?_)<;>first|exact Xq|exact M|exact (ak.put L _)|exact (J.put aj _ _)|exact Xs)
 have be:i=Z x.A:=L;subst be;rw[AS]at b;have a1:V _:=b;clear b az;refine X ?_;refine A2 (Q:=λan o f=>an= .normal/\o 1=Y j/\o 3=ptr d.B 0/\o 5=ptr (d.B+1) 0/\o 6=ptr (d.B+2) 0/\o 8=ptr (d.B+3) 0/\o 10=Y (Z x.A)/\W d f/\d.B+3<f.B/\f.C d.B=(ko x q id ai)/\f.C (d.B+1)=(ko y af ao am)/\f.C (d.B+2)=[my false,my false,O [],H,H]/\∃S B,f.C (d.B+3)=[my false,my x.h.nt,O x.h.B,lw q x.h.A,sl B (Z x.A+1) (g++[my y.h.nt,O y.h.B,sl S (Z y.h.A) ((Gz y.h).A.map O)])]/\J d f B (Z x.A+1)) ?_ ?_
 ·refine Ar Ag (λ_=>True) [8] [0,1,2,3] 5 (nv 9 15) AH (λ_ _ _ h=>by cases h.1) ?_;intro yb ya;refine Z3 ?_;refine ya.o _ ?_;clear ya yb;refine Ai (i:=4) AH ?_;refine Am ?_;intro yb ya;refine Z3 ?_;refine AF.mono (b4 _) ?_;rintro _ d5 ⟨S,rfl,D⟩;refine Z3 ?_;refine ya.o _ _ ⟨Al D,?_⟩;clear ya yb;have a4:=D.B;have U:=D.C;have a9:=C.trans D;have b6:=J.keep G D;refine Ai (i:=5) AH ?_;refine Am ?_;intro yb ya;refine Z3 ?_;refine ya.o _ _ ⟨Al (D.lay 1),?_⟩;clear ya yb;refine Ai (i:=6) AH ?_;refine Am ?_;intro yb ya;refine Z3 ?_;refine Bo (by first|exact It) a9 b6 nr (by rfl) K (by rfl) (by rfl) nr L L ?_;intro B dn aj ak ad ab ac aa;refine Z3 ?_;refine ya.o _ _ ⟨λ_ ae ho _=>by rw[ac];exact D.ver ae ho,?_⟩;clear ya yb;refine Ai (i:=7) AH ?_;refine Am ?_;intro yb ya;refine Z3 ?_;refine ya.o _ _ ⟨λ_ ae ho _=>by rw[ac];exact D.ver ae ho,?_⟩;clear ya yb;have en:∀a2,a2<A.B->dn.C a2=A.C a2:=λa2 hp=>by rw[ad,U _ L]
  have aw:dn.C (d.B+3)=[my false,my x.h.nt,O x.h.B,lw q x.h.A,sl F (Z x.A) g]:=by rw[en _ v,E]
  refine Ai (i:=8) AH ?_;refine Am ?_;intro yb ya;refine Z3 ?_;refine ya.o _ _ ⟨A3 rfl,?_⟩;clear ya yb;refine Aw AH ⟨rfl,?_⟩;simp only[upd,↓reduceIte,Nat.reduceEqDiff,h1,h3,bc,h6,h8,GM];refine⟨ak.put L _,by simp only[Ac];omega,?_,?_,?_,S,B,?_,J.put aj _ _⟩
  ·rw[Aj L,en _ L,p]
  ·rw[Aj L,en _ L,N]
  ·rw[Aj L,en _ L,I]
  rw[Ak]
 clear G p N I E v C a5 b4;rintro an o f ⟨rfl,g1,g3,g5,g6,g8,au,C,v,p,N,I,S,B,E,G⟩;have b7:V (r Bf (x.A++[Gz y.h]) (g++[my y.h.nt,O y.h.B,sl S (Z y.h.A) ((Gz y.h).A.map O)])):=r.append a1.o (r.single (wG _ _));have a6:Z (g++[my y.h.nt,O y.h.B,sl S (Z y.h.A) ((Gz y.h).A.map O)])=(Z x.A+1)*3:=by simp;omega
 generalize g++[my y.h.nt,O y.h.B,sl S (Z y.h.A) ((Gz y.h).A.map O)]=bj at E b7 a6;clear K a1;have a5:=C.B;refine X ?_
 refine Ae (λm s A=>∃(i F:Nat) (g:oh),m=Z y.A-i/\i<=Z y.A/\s 1=Y j/\s 3=ptr d.B 0/\s 5=ptr (d.B+1) 0/\s 6=ptr (d.B+2) 0/\s 8=ptr (d.B+3) 0/\s 10=Y (Z x.A)/\s 11=Y i/\W d A/\d.B+3<A.B/\A.C d.B=(ko x q id ai)/\A.C (d.B+1)=(ko y af ao am)/\A.C (d.B+2)=[my false,my false,O [],H,H]/\A.C (d.B+3)=[my false,my x.h.nt,O x.h.B,lw q x.h.A,sl F (Z x.A+1+i) g]/\J d A F (Z x.A+1+i)/\Z g=(Z x.A+1+i)*3/\V (r Bf (x.A++[Gz y.h]++(y.A.take i).map Gz) g)) (Z y.A)
  ⟨0,B,bj,L,L,AI,AI,AI,AI,AI,AI,AG,C,v,p,N,I,E,G,a6,by simpa[V]using b7.o⟩ ?_
 clear g1 g3 g5 g6 g8 au C v p N I E G b7 a6 a5;rintro m s A ⟨i,F,g,rfl,hi,h1,h3,bc,h6,h8,ba,cj,C,v,p,N,I,E,G,K,b⟩;have a5:=C.B;by_cases az:i<Z y.A
 ·have e:=AK az;obtain⟨P,ah,hd⟩:=Ca cd e;have b9:=hy.2.2 _ (AR az);have bp:=hs _ (.inr (AR az));generalize y.A[i]=w at hd e b9 bp;have HG:V ((y.A.take (i+1)).map Gz=(y.A.take i).map Gz++[Gz w]):=by
   rw[V,AT,e];simp
  clear e;have cf:=λd=>dQ w P b9 bp d;clear bp;have a1:V _:=b;have T:V _:=K;clear b;have bf:V (Z x.A+1+(i+1)=Z x.A+1+i+1):=by rw[V];omega
  have bq:Z x.A+1+i<=300:=L;generalize Z x.A+1+i=ap at E G K T bf bq;refine X ?_;refine A2 (Q:=λan o f=>an= .normal/\o 1=Y j/\o 3=ptr d.B 0/\o 5=ptr (d.B+1) 0/\o 6=ptr (d.B+2) 0/\o 8=ptr (d.B+3) 0/\o 10=Y (Z x.A)/\o 11=Y i/\W d f/\d.B+3<f.B/\f.C d.B=(ko x q id ai)/\f.C (d.B+1)=(ko y af ao am)/\f.C (d.B+2)=[my false,my false,O [],H,H]/\∃S B,f.C (d.B+3)=[my false,my x.h.nt,O x.h.B,lw q x.h.A,sl B (ap+1) (g++[my w.nt,O w.B,sl S (Z w.A) ((Gz w).A.map O)])]/\J d f B (ap+1)) ?_ ?_
  ·refine Ar Ag (λ_=>True) [11] [0,1,2,3,4,5,6] 5 (nv 12 127) AH (λ_ _ _ h=>by cases h.1) ?_;intro yb ya;refine Z3 ?_;refine ya.o _ ?_;clear ya yb;refine Ai (i:=7) AH ?_;refine Am ?_;intro yb ya;refine Z3 ?_;refine AF.mono (cf _) ?_;rintro _ d5 ⟨S,rfl,D⟩;refine Z3 ?_;refine ya.o _ _ ⟨Al D,?_⟩;clear ya yb;have a4:=D.B;have U:=D.C;have a9:=C.trans D;have b6:=J.keep G D;refine Ai (i:=8) AH ?_;refine Am ?_;intro yb ya;refine Z3 ?_;refine ya.o _ _ ⟨Al (D.lay 1),?_⟩;clear ya yb;refine Ai (i:=9) AH ?_;refine Am ?_;intro yb ya;refine Z3 ?_;refine Bo (by first|exact It) a9 b6 nr (by rfl) K (by rfl) (by rfl) nr L L ?_;intro B dn aj ak ad ab ac aa;refine Z3 ?_;refine ya.o _ _ ⟨λ_ ae ho _=>by rw[ac];exact D.ver ae ho,?_⟩;clear ya yb;refine Ai (i:=10) AH ?_;refine Am ?_;intro yb ya;refine Z3 ?_;refine ya.o _ _ ⟨λ_ ae ho _=>by rw[ac];exact D.ver ae ho,?_⟩;clear ya yb;have en:∀a2,a2<A.B->dn.C a2=A.C a2:=λa2 hp=>by rw[ad,U _ L]
   have aw:dn.C (d.B+3)=[my false,my x.h.nt,O x.h.B,lw q x.h.A,sl F ap g]:=by rw[en _ v,E]
   refine Ai (i:=11) AH ?_;refine Am ?_;intro yb ya;refine Z3 ?_;refine ya.o _ _ ⟨A3 rfl,?_⟩;clear ya yb;refine Aw AH ⟨rfl,?_⟩;simp only[upd,↓reduceIte,Nat.reduceEqDiff,h1,h3,bc,h6,h8,ba,cj,GM];refine⟨ak.put L _,by simp only[Ac];omega,?_,?_,?_,S,B,?_,J.put aj _ _⟩
   ·rw[Aj L,en _ L,p]
   ·rw[Aj L,en _ L,N]
   ·rw[Aj L,en _ L,I]
   rw[Ak]
  clear G p N I E v C a5;rintro an o f ⟨rfl,g1,g3,g5,g6,g8,au,bk,C,v,p,N,I,S,B,E,G⟩;have HX:V (r Bf (x.A++[Gz y.h]++(y.A.take (i+1)).map Gz) (g++[my w.nt,O w.B,sl S (Z w.A) ((Gz w).A.map O)])):=by
   rw[V,HG.o,<-CR];exact r.append a1.o (r.single (wG _ _))
  clear a1 cf;refine X ?_;refine⟨Z y.A-(i+1),L,i+1,B,g++[my w.nt,O w.B,sl S (Z w.A) ((Gz w).A.map O)],?_⟩;rw[bf.o]
  ((repeat' refine Zi ?_ ?_)<;>first|exact Xq|exact HX|exact (by rw[AX,T.o];simp;omega)|exact Xs)
 have be:i=Z y.A:=L;subst be;rw[AS]at b;have ck:V (r Bf (Pv x y).A g):=by
  have:=b.o;simpa[V,Pv]using this
 have ca:Z x.A+1+Z y.A=Z (Pv x y).A:=by simp[Pv];omega
 rw[ca]at E G K;have cm:V (GC x y j 0 (Pv x y)):=GC.start hx hy h5 cp ce c7;clear b G K az;refine X ?_
 refine Ae (λm s A=>∃(k:Nat) (z:AB) (iz jz:Nat) (bz:oh),m=Z y.h.A-k/\k<=Z y.h.A/\s 1=Y j/\s 3=ptr d.B 0/\s 5=ptr (d.B+1) 0/\s 6=ptr (d.B+2) 0/\s 8=ptr (d.B+3) 0/\s 10=Y (Z x.A)/\s 12=Y k/\W d A/\d.B+3<A.B/\A.C d.B=(ko x q id ai)/\A.C (d.B+1)=(ko y af ao am)/\A.C (d.B+2)=[my false,my false,O [],H,H]/\A.C (d.B+3)=(ko z iz jz bz)/\V (r Bf z.A bz/\GC x y j k z)) (Z y.h.A)
  ⟨0,Pv x y,q,F,g,L,L,AI,AI,AI,AI,AI,AI,AG,C,v,p,N,I,E,ck.o,cm.o⟩ ?_
 clear h1 h3 bc h6 h8 ba cj C v p N I E a5 ck cm ca;rintro m s A ⟨k,z,iz,jz,bz,rfl,hk,h1,h3,bc,h6,h8,ba,da,C,v,p,N,I,E,hH⟩;have a5:=C.B;by_cases az:k<Z y.h.A
 ·obtain⟨hz,hJ⟩:=hH.o;have c9:=hJ;obtain⟨bg,cn,bo,⟨a,ha,bi⟩,⟨a',bm,c8⟩,-⟩:=c9;have b2:=r.length A7 hz;have bl:=bg.1;have de:=(BA.1 ha).1;have dc:=(BA.1 bm).1;obtain⟨P,ah,hd⟩:=Ca hz ha;obtain⟨bt,r',df⟩:=Ca hz bm;have b1:a.A[k]?=some (a.A[k]'L):=AK L;have cz:=A1 (l:=a.A) (k:=k) L;generalize a.A[k]'L=t at b1 cz;have bw:a'.A[k]?=some (a'.A[k]'L):=AK L;have cx:=A1 (l:=a'.A) (k:=k) L;generalize a'.A[k]'L=u at bw cx;have av:Z y.h.A-k=Z y.h.A-(k+1)+1:=L;have b3:=eI (m:=Z y.h.A-(k+1)) ha bm b1 bw;rw[<-av]at b3;have a3:V _:=b3;clear b3;have HJ:V _:=hJ;have HZ:V _:=hz;have HF:V _:=bg;have ct:(k:Int)<(Z a.A:Int):=L;have cr:(k:Int)<(Z a'.A:Int):=L;have hP:=λax w d=>qK z iz jz bz ax w hz bg d;have bn:Z z.A<=300:=L;clear ha bm b1 bw av hz hJ hH bg cn bo;have db:=hy.2.1;have hV:=λd=>Cg u d;have bb:=λd=>Cg t d;by_cases ay:t=u
  ·have br:(t==u)=true:=by simp[ay]
   have M:V (r Bf z.A bz/\GC x y j (k+1) z):=by
    obtain⟨q1,q2,q3,q4,q5,q6⟩:=HJ.o;exact⟨HZ.o,q1,q2,q3,q4,q5,by rw[q6,a3.o,if_pos ay]⟩
   clear ay a3 hP hV bb HJ HZ;refine X ?_;refine⟨Z y.h.A-(k+1),L,k+1,z,iz,jz,bz,?_⟩;exact m9 M
  have br:(t==u)=false:=nn ay;cases hv:Ab u with
  |true=>
   rw[hv]at hV;have M:V (GC x y j (k+1) (Dj u t z)):=GC.put HJ.o (by rw[a3.o,if_neg ay,if_pos hv]);have hP:=hP u t;clear ay a3 bb HJ HZ
   (repeat (refine m0 ?_;intro yb ya;(first|(refine Xi (hV _) ?_;rintro _ _ ⟨rfl,rfl⟩)|(refine Xi (hP _) ?_;rintro _ _ ⟨i5,j5,b5,rfl,a8,D⟩;(rename_i d5;have U:=D.C;have a4:=D.B;have a9:=C.trans D;have o0:=(U _ (show d.B<_ by omega)).trans p;have o1:=(U _ (show d.B+1<_ by omega)).trans N;have o2:=(U _ (show d.B+2<_ by omega)).trans I;have o3:=(U _ (show d.B+3<_ by omega)).trans E)))));refine X ?_
   have b8:V (r Bf (Dj u t z).A b5/\GC x y j (k+1) (Dj u t z)):=⟨a8,M.o⟩;refine⟨Z y.h.A-(k+1),L,k+1,Dj u t z,i5,j5,b5,?_⟩
   ((repeat' refine Zi ?_ ?_)<;>first|exact Xq|exact b8|exact (a9.put L _)|exact o0|exact o1|exact o2|exact Xs)
  |false=>
   rw[hv]at hV;cases hw:Ab t with
   |true=>
    rw[hw]at bb;have M:V (GC x y j (k+1) (Dj t u z)):=GC.put HJ.o (by rw[a3.o,if_neg ay,if_neg (by simp[hv]),if_pos hw]);have hP:=hP t u;clear ay a3 HJ HZ
    (repeat (refine m0 ?_;intro yb ya;(first|(refine Xi (hV _) ?_;rintro _ _ ⟨rfl,rfl⟩)|(refine Xi (bb _) ?_;rintro _ _ ⟨rfl,rfl⟩)|(refine Xi (hP _) ?_;rintro _ _ ⟨i5,j5,b5,rfl,a8,D⟩;(rename_i d5;have U:=D.C;have a4:=D.B;have a9:=C.trans D;have o0:=(U _ (show d.B<_ by omega)).trans p;have o1:=(U _ (show d.B+1<_ by omega)).trans N;have o2:=(U _ (show d.B+2<_ by omega)).trans I;have o3:=(U _ (show d.B+3<_ by omega)).trans E)))));refine X ?_
    have b8:V (r Bf (Dj t u z).A b5/\GC x y j (k+1) (Dj t u z)):=⟨a8,M.o⟩;refine⟨Z y.h.A-(k+1),L,k+1,Dj t u z,i5,j5,b5,?_⟩
    ((repeat' refine Zi ?_ ?_)<;>first|exact Xq|exact b8|exact (a9.put L _)|exact o0|exact o1|exact o2|exact Xs)
   |false=>
    rw[hw]at bb;have M:V (joinL x j y=none):=by
     rw[V,joinL,HJ.o.2.2.2.2.2,a3.o,if_neg ay,if_neg (by simp[hv]),if_neg (by simp[hw])];rfl
    clear ay a3 HJ HZ hP
    (repeat (refine m0 ?_;intro yb ya;(first|(refine Xi (hV _) ?_;rintro _ _ ⟨rfl,rfl⟩)|(refine Xi (bb _) ?_;rintro _ _ ⟨rfl,rfl⟩))));refine X ?_
    exact⟨_,rfl,x,_,false,rfl,cc,.inr ⟨rfl,M.o⟩,C.put L _⟩
 have bv:k=Z y.h.A:=L;subst bv;obtain⟨hz,hJ⟩:=hH.o;have bo:=hJ.2.2.1;have bn:Z x.A+1<=Z z.A/\Z z.A<=300:=L;have HL:V (joinL x j y=some (Tq j (Z x.A) z)):=hJ.last;have b2:=r.length A7 hz;have cv:=(BA.1 ce).1;clear bo hJ hH az;refine X ?_
 refine Ae (λm s f=>∃(i F:Nat) (g:oh),m=Z x.A-i/\i<=Z x.A/\s 1=Y j/\s 6=ptr (d.B+2) 0/\s 8=ptr (d.B+3) 0/\s 10=Y (Z x.A)/\s 15=ptr A.B 0/\s 16=Y i/\W d f/\A.B<f.B/\f.C (d.B+2)=[my false,my false,O [],H,H]/\f.C (d.B+3)=(ko z iz jz bz)/\f.C A.B=[my false,my z.h.nt,O z.h.B,lw iz z.h.A,sl F (Z (G4 z j (Z x.A) i)) g]/\J d f F (Z (G4 z j (Z x.A) i))/\Z g=Z (G4 z j (Z x.A) i)*3/\V (r Bf (G4 z j (Z x.A) i) g)) (Z x.A)
  ⟨0,1,[],L,L,AI,AI,AI,AI,AG,AG,Xs,BJ,?_,?_,?_,J.nil _ _,by simp[G4],by simp[V,G4,r]⟩ ?_
 ·rw[Aj L,Ah L,I]
 ·rw[Aj L,Ah L,E]
 ·rw[Ak];simp[G4]
 clear h1 h3 bc h6 h8 ba da C p N I E;rintro m s f ⟨i,F,g,rfl,hi,h1,h6,h8,ba,ci,ch,C,a7,I,E,a0,G,K,b⟩;have bd:=C.B;have bi:=WO (z:=z) (j:=j) (n:=Z x.A) (i:=i);by_cases az:i<Z x.A
 ·have e:=AK (show i<Z z.A by omega);obtain⟨P,ah,hd⟩:=Ca hz e;generalize z.A[i]'L=a at hd e;have a1:V _:=b;have T:V _:=K;clear b;by_cases bh:i=j
  ·have cq:((i:Int) !=(j:Int))=false:=by simp[bh]
   subst bh;have HS:V (G4 z i (Z x.A) (i+1)=G4 z i (Z x.A) i++z.A.drop (Z x.A+1)):=ZW;generalize G4 z i (Z x.A) i=R at a0 G K T a1 bi HS;clear e hd;refine X ?_
   refine Ae (λm s d3=>∃(k F:Nat) (g:oh),m=Z z.A-k/\Z x.A+1<=k/\k<=Z z.A/\s 1=Y i/\s 6=ptr (d.B+2) 0/\s 8=ptr (d.B+3) 0/\s 10=Y (Z x.A)/\s 15=ptr A.B 0/\s 16=Y i/\s 17=Y k/\W d d3/\A.B<d3.B/\d3.C (d.B+2)=[my false,my false,O [],H,H]/\d3.C (d.B+3)=(ko z iz jz bz)/\d3.C A.B=[my false,my z.h.nt,O z.h.B,lw iz z.h.A,sl F (Z R+(k-(Z x.A+1))) g]/\J d d3 F (Z R+(k-(Z x.A+1)))/\Z g=(Z R+(k-(Z x.A+1)))*3/\V (r Bf (R++(z.A.drop (Z x.A+1)).take (k-(Z x.A+1))) g)) (Z z.A-(Z x.A+1))
    ⟨Z x.A+1,F,g,L,L,L,AI,AI,AI,AI,AI,AI,AG,C,a7,I,E,by rw[a0];simp,nn G,nn T.o,by simpa[V]using a1.o⟩ ?_
   clear h1 h6 h8 ba ci ch C a7 I E a0 G K T a1 bd;rintro m s d3 ⟨k,F,g,rfl,dd,hk,h1,h6,h8,ba,ci,ch,di,C,a7,I,E,a0,G,K,b⟩;have bd:=C.B;by_cases bu:k<Z z.A
   ·have e:=AK bu;obtain⟨P,ah,hd⟩:=Ca hz e;generalize z.A[k]=a at hd e;have e1:k+1-(Z x.A+1)=(k-(Z x.A+1))+1:=L;have M:V (r Bf (R++(z.A.drop (Z x.A+1)).take (k+1-(Z x.A+1))) (g++[my a.nt,O a.B,lw P a.A])):=by
     rw[V,e1,AT,IJ,show Z x.A+1+(k-(Z x.A+1))=k by omega,e,<-CR];exact r.append b.o (r.single ⟨P,rfl⟩)
    have bf:V (Z R+(k+1-(Z x.A+1))=Z R+(k-(Z x.A+1))+1):=by rw[V];omega
    have bq:Z R+(k-(Z x.A+1))<=3000:=L;have T:V _:=K;clear e b e1;generalize Z R+(k-(Z x.A+1))=ap at a0 K T G bf bq;refine X ?_;refine Ax Ag (λ_=>True) [8,9,10] [0,1,2,3,4,5,6] [7,8,9,10] AH (λ_ _ _ h=>h) ?_;have cg:W d3 (d3.lay 1):=(W.refl _).lay 1;intro yb ya;refine m4 ?_;intro B dn aj ak ad ab ac aa;refine X ?_;refine⟨Z z.A-(k+1),L,k+1,B,g++[my a.nt,O a.B,lw P a.A],?_⟩;rw[bf.o]
    ((repeat' refine Zi ?_ ?_)<;>first|exact Xq|exact M|exact (ak.put L _)|exact (J.put aj _ _)|exact (by rw[AX,T.o];simp;omega)|exact Xs)
   have bv:k=Z z.A:=L;subst bv;have HQ:V (G4 z i (Z x.A) (i+1)=R++z.A.drop (Z x.A+1)/\Z R+(Z z.A-(Z x.A+1))=Z (G4 z i (Z x.A) (i+1))/\r Bf (G4 z i (Z x.A) (i+1)) g):=by
    have h1:=b.o;rw[FZ (by rw[length_drop];omega)]at h1;exact⟨HS.o,by rw[HS.o,AX,length_drop],by rw[HS.o];exact h1⟩
   have cb:Z R+(Z z.A-(Z x.A+1))=Z (G4 z i (Z x.A) (i+1)):=HQ.o.2.1;rw[cb]at a0 G K;have M:V (r Bf (G4 z i (Z x.A) (i+1)) g):=HQ.o.2.2;have T:V _:=K;clear cb HQ b HS K;refine X ?_;refine⟨Z x.A-(i+1),L,i+1,F,g,?_⟩
   ((repeat' refine Zi ?_ ?_)<;>first|exact Xq|exact M|exact G|exact T.o|exact a0|exact Xs)
  have cq:((i:Int) !=(j:Int))=true:=by simp;omega
  have HS:V (G4 z j (Z x.A) (i+1)=G4 z j (Z x.A) i++[a]):=zO e bh;generalize G4 z j (Z x.A) i=R at a0 G K T a1 bi HS;have cu:V (Z (G4 z j (Z x.A) (i+1))=Z R+1):=by rw[V,HS.o];simp
  have M:V (r Bf (G4 z j (Z x.A) (i+1)) (g++[my a.nt,O a.B,lw P a.A])):=by rw[V,HS.o];exact r.append a1.o (r.single ⟨P,rfl⟩)
  clear e bh a1;refine X ?_;refine Ax Ag (λ_=>True) [8,9,10] [0,1,2,3,4,5,6] [7,8,9,10] AH (λ_ _ _ h=>h) ?_;have cg:W f (f.lay 1):=(W.refl _).lay 1;intro yb ya;refine m4 ?_;intro B dn aj ak ad ab ac aa;refine X ?_;refine⟨Z x.A-(i+1),L,i+1,B,g++[my a.nt,O a.B,lw P a.A],?_⟩;rw[cu.o]
  ((repeat' refine Zi ?_ ?_)<;>first|exact Xq|exact M|exact (ak.put L _)|exact (J.put aj _ _)|exact (by rw[AX,T.o];simp;omega)|exact Xs)
 have be:i=Z x.A:=L;subst be;rw[WQ cv]at a0 b;have HE:AJ (Tq j (Z x.A) z) [my false,my z.h.nt,O z.h.B,lw iz z.h.A,sl F (Z (Tq j (Z x.A) z).A) g]:=⟨[my z.h.nt,O z.h.B,lw iz z.h.A],F,g,⟨iz,rfl⟩,b.o,rfl⟩;clear b bi G K;refine X ?_;exact⟨_,rfl,_,_,true,rfl,HE,.inl ⟨rfl,HL.o⟩,C.put L _⟩
def uR (l:n0)(x:AB)(j:Nat)(q:Tx):n0:=(l.filter (Fw q)).filterMap (joinL x j)
def YA {l:n0}{x j q i y}(h:l[i]?=some y):uR (l.take (i+1)) x j q=uR (l.take i) x j q++(if Fw q y=true then (joinL x j y).toList else []):=by rw[uR];rw[AT,h,IR,filterMap_append];congr 1;by_cases a:Fw q y=true;rw[if_pos a];cases b:joinL x j y<;>simp[a,b];rw[if_neg a];simp[a]
def QE (l x j q):Z (uR l x j q)<=Z l:=BI (length_filterMap_le _ _) (IS _ _)
def fL (l cs)(ah i j:Nat)(x a)(hE:r AJ l cs)(hl:Z l<=1000)(hf:∀y∈l,y.fits)(h5:∀y∈l,Z y.A<=100)(T:l[i]?=some x)(ha:x.A[j]?=some a)(aw:∀y∈l,y.o=false->y.h.B=a.B->Z a.A=Z y.h.A)
  (hs:∀y∈l,∀a,a=y.h\/a∈y.A->∀t∈a.A,Z t<=1001)(d):ni 167 [sl ah (Z l) cs,Y i,Y j] d λap z=>∃id c',ap=sl id (Z (uR l x j a.B)) c'/\r AJ (uR l x j a.B) c'/\W d z:=by
 have bv:=r.length Cf hE;have bq:=(BA.1 T).1;have bp:=(BA.1 ha).1;have a8:x∈l:=AY T;let⟨af,ai,bx,rx,a5,bu⟩:=Cv hE T;let⟨ay,b0,bm⟩:=Ca a5 ha;have bn:=r.length A7 a5;have be:=h5 x a8;have HA:V (x.A[j]?=some a):=ha;have bd:AJ x [my x.o,my x.h.nt,O x.h.B,sl af (Z x.h.A) (x.h.A.map O),sl ai (Z x.A) bx]:=⟨[my x.h.nt,O x.h.B,sl af (Z x.h.A) (x.h.A.map O)],ai,bx,⟨af,rfl⟩,a5,rfl⟩;have HF:V (x.fits):=hf x a8;clear ha T;refine wl func167 ?_;refine X ?_
 refine wn [0,1,2] 8 (Z l) (λk au z=>∃(A:Nat) (u:oh),au 7=sl A (Z (uR (l.take k) x j a.B)) u/\W d z/\J d z A (Z (uR (l.take k) x j a.B))/\Z u=Z (uR (l.take k) x j a.B)*5/\V (r AJ (uR (l.take k) x j a.B) u)) ⟨1,[],by simp[upd,uR],W.refl _,J.nil _ _,by simp[uR],by simp[V,uR,r]⟩ ?_
 rintro k au z _ ⟨h0,h1,h2⟩ h8 ⟨A,u,h7,M,m,a3,N⟩;have bc:=M.B;have U:=QE (l.take k) x j a.B;rw[CN]at U;by_cases bb:k<Z l
 ·have a1:=AK bb;have R:=AR bb;obtain⟨ih,id,ao,ap,hb,hd⟩:=Cv hE a1;generalize l[k]=y at a1 R hb hd;have D:V _:=YA (x:=x) (j:=j) (q:=a.B) a1;have a7:AJ y [my y.o,my y.h.nt,O y.h.B,sl ih (Z y.h.A) (y.h.A.map O),sl id (Z y.A) ao]:=⟨[my y.h.nt,O y.h.B,sl ih (Z y.h.A) (y.h.A.map O)],id,ao,⟨ih,rfl⟩,hb,rfl⟩;have e:V _:=N;clear a1 N;cases I:Fw a.B y
  ·have C:V (uR (l.take (k+1)) x j a.B=uR (l.take k) x j a.B):=by rw[V,D.o,I];simp
   have c:(!y.o&&y.h.B==a.B)=false:=by rw[<-I,Fw];congr 1;by_cases a2:y.h.B=a.B<;>simp[a2]
   clear I D a7;generalize uR (l.take k) x j a.B=E at h7 m a3 e C U;cases a9:y.o with
   |true=>
    rw[a9]at c;clear c;refine X ?_;refine Ax Ag (λ_=>True) [] [0,1,2,3,4,5,6,7,8,9,10,11,12,13,14,15,16,17,18,19,20,21,22,23] [] AH (λ_ _ _ h=>h) ?_;intro yb ya;refine X ?_;refine⟨A,u,?_⟩;rw[C.o];exact m9 e
   |false=>
    have bg:(y.h.B==a.B)=false:=by rw[a9]at c;simpa using c
    clear c;refine X ?_;refine Ax Ag (λ_=>True) [] [0,1,2,3,4,5,6,7,8,9,10,11,12,13,14,15,16,17,18,19,20,21,22,23] [] AH (λ_ _ _ h=>h) ?_;intro yb ya;refine X ?_;refine⟨A,u,?_⟩;rw[C.o];exact m9 e
  have K:V (uR (l.take (k+1)) x j a.B=uR (l.take k) x j a.B++(joinL x j y).toList):=by rw[V,D.o,I];simp
  have c:y.o=false/\y.h.B=a.B:=by simpa[Fw]using I
  obtain⟨ba,a4⟩:=c;have G:=λd=>nM x y _ _ j a bd a7 HF.o (hf y R) be (h5 y R) HA.o (aw y R ba a4) (hs y R) d;rw[ba]at G;have bg:(y.h.B==a.B)=true:=nn a4;clear I D a4;generalize uR (l.take k) x j a.B=E at h7 m a3 e K U;refine X ?_;refine Ax Ag (λ_=>True) [] [0,1,2,3,4,5,6,7,8,9,10,11,12,13,14,15,16,17,18,19,20,21,22,23] [] AH (λ_ _ _ h=>h) ?_;intro yb ya;refine X ?_;refine A2 (Q:=λa2 B ac=>a2= .normal/\B 0=sl ah (Z l) cs/\B 1=Y i/\B 2=Y j/\B 7=sl A (Z E) u/\B 8=Y k/\W z ac/\∃w g p n ok s,B 9=ptr s 0/\B 10=my ok/\r Bf w.A n/\TR x j y w ok/\z.B<=s/\s<ac.B/\ac.C s=[my w.o,my w.h.nt,O w.h.B,sl g (Z w.h.A) (w.h.A.map O),sl p (Z w.A) n]) ?_ ?_
  ·refine Ar Ag (λ_=>True) [] [0,1,2,3,4,5,6,7,8] 7 (nv 16 511) AH (λ_ _ _ h=>by cases h.1) ?_;intro yb ya;refine Z3 ?_;refine ya.o _ ?_;clear ya yb;refine D8 (rs:=[9,13]) AH nk ?_;intro i hi;simp only[BD,EK,DZ]at hi;rcases hi with rfl|rfl
   ·refine Am ?_;intro yb ya;refine Z3 ?_;refine AF.mono (G _) ?_;rintro _ P ⟨w,av,ok,rfl,F,S,f⟩;obtain⟨g,p,n,an,rfl⟩:=F.cells;unfold A4;refine Z3 ?_;refine ya.o _ _ ⟨Al f,?_⟩;clear ya yb;have am:=f.B;refine Bu (i:=10) _ (tp [ag [my w.o,my w.h.nt,O w.h.B,sl g (Z w.h.A) (w.h.A.map O),sl p (Z w.A) n],my ok]) rfl rfl rfl rfl rfl AH AH (λ_ _ _ h=>by cases h.1) (λo c _=>f.ver o c) ?_;refine Bu (i:=11) _ (ag [my w.o,my w.h.nt,O w.h.B,sl g (Z w.h.A) (w.h.A.map O),sl p (Z w.A) n]) rfl rfl rfl rfl rfl AH AH (λ_ _ _ h=>by cases h.1) (λo c _=>f.ver o c) ?_;refine Bu (i:=12) _ (my ok) rfl rfl rfl rfl rfl AH AH (λ_ _ _ h=>by cases h.1) (λo c _=>f.ver o c) ?_;refine Ai (i:=13) AH ?_;refine Am ?_;intro yb ya;refine Z3 ?_;refine ya.o _ _ ⟨Al (f.new _),?_⟩;clear ya yb;refine Ai (i:=14) AH ?_;refine Am ?_;intro yb ya;refine Z3 ?_;refine ya.o _ _ ⟨Al ((f.new _).put L _),?_⟩;clear ya yb;refine Ai (i:=15) AH ?_;refine Am ?_;intro yb ya;refine Z3 ?_;refine ya.o _ _ ⟨Al ((f.new _).put L _),?_⟩;clear ya yb;refine Aw AH ⟨rfl,AI,AI,AI,AI,AI,(f.new _).put L _,w,g,p,n,ok,P.B,AG,AG,an,S,L,BJ,Ak⟩
   refine Am ?_;intro yb ya;refine Z3 ?_;refine ya.o _ _ ⟨Al ((W.refl _).new _),?_⟩;clear ya yb;refine Ai (i:=9) AH ?_;refine Am ?_;intro yb ya;refine Z3 ?_;refine AF.mono (G _) ?_;rintro _ P ⟨w,av,ok,rfl,F,S,f⟩;obtain⟨g,p,n,an,rfl⟩:=F.cells;unfold A4;have v:W z P:=((W.refl z).new _).trans f;have am:=f.B;have az:=f.C z.B AM;rw[Ao]at az;simp only[Aa]at am;refine Z3 ?_;refine ya.o _ _ ⟨Al v,?_⟩;clear ya yb;refine Bu (i:=10) _ (tp [ag [my w.o,my w.h.nt,O w.h.B,sl g (Z w.h.A) (w.h.A.map O),sl p (Z w.A) n],my ok]) rfl rfl rfl rfl rfl AH AH (λ_ _ _ h=>by cases h.1) (λo c _=>v.ver o c) ?_;refine Bu (i:=11) _ (ag [my w.o,my w.h.nt,O w.h.B,sl g (Z w.h.A) (w.h.A.map O),sl p (Z w.A) n]) rfl rfl rfl rfl rfl AH AH (λ_ _ _ h=>by cases h.1) (λo c _=>v.ver o c) ?_;refine Bu (i:=12) _ (my ok) rfl rfl rfl rfl rfl AH AH (λ_ _ _ h=>by cases h.1) (λo c _=>v.ver o c) ?_;refine Ai (i:=14) AH ?_;refine Am ?_;intro yb ya;refine Z3 ?_;refine ya.o _ _ ⟨Al (v.put (AU _) _),?_⟩;clear ya yb;refine Ai (i:=15) AH ?_;refine Am ?_;intro yb ya;refine Z3 ?_;refine ya.o _ _ ⟨Al (v.put (AU _) _),?_⟩;clear ya yb;refine Aw AH ⟨rfl,AI,AI,AI,AI,AI,v.put (AU _) _,w,g,p,n,ok,z.B,AG,AG,an,S,L,by simp only[Ac];omega,Ak⟩
  rintro a2 B P ⟨rfl,h0,h1,h2,h7,h8,f,w,g,p,n,ok,s,h9,bw,F,S,bo,br,bf⟩;have am:=f.B;have a6:=J.keep m f;have v:=M.trans f;clear G m M bc f;rcases S with⟨rfl,b⟩|⟨rfl,b⟩
  ·have bh:V (Z (uR (l.take (k+1)) x j a.B)=Z E+1):=by rw[V,K.o,b];simp
   have C:V (r AJ (uR (l.take (k+1)) x j a.B) (u++[my w.o,my w.h.nt,O w.h.B,sl g (Z w.h.A) (w.h.A.map O),sl p (Z w.A) n])):=by
    rw[V,K.o,b];exact r.append e.o (r.single ⟨[my w.h.nt,O w.h.B,sl g (Z w.h.A) (w.h.A.map O)],p,n,⟨g,rfl⟩,F,rfl⟩)
   clear b K F;have M:=v;have m:=a6;have a0:V _:=a3;clear v a6;refine m5 ?_;intro yb ya;intro ax dn aj ak ae ab ad aa;refine X ?_;refine⟨ax,u++[my w.o,my w.h.nt,O w.h.B,sl g (Z w.h.A) (w.h.A.map O),sl p (Z w.A) n],?_⟩;rw[bh.o]
   ((repeat' refine Zi ?_ ?_)<;>first|exact Xq|exact C|exact (by rw[AX,a0.o];simp;omega)|exact Xs)
  have C:V (uR (l.take (k+1)) x j a.B=E):=by rw[V,K.o,b];simp
  clear b K F;refine X ?_;refine⟨A,u,?_⟩;rw[C.o];exact ng e v a6
 obtain rfl:k=Z l:=L;rw[AS]at h7 N;clear U;refine X ?_
 exact⟨_,rfl,A,u,rfl,N.o⟩
def Nr {I:AB->Prop}{j n}(f:∀z u t,I z->(∃a∈z.A,t∈a.A)->I (Dj u t z)):∀{m k:Nat} {z g:AB},I z->Kj j n m k z=some g->I g
 |0,k,z,g,h,e=>by rw[Kj]at e;cases e;exact h
 |m+1,k,z,g,h,e=>by
  rw[Kj]at e;cases c:z.A[j]? with
  |none=>rw[c]at e;cases e
  |some a=>
   cases d:z.A[n]? with
   |none=>rw[c,d]at e;simp at e
   |some b=>
    cases l:a.A[k]? with
    |none=>rw[c,d]at e;simp[l]at e
    |some t=>
     cases i:b.A[k]? with
     |none=>rw[c,d]at e;simp[i]at e
     |some u=>
      rw[c,d]at e;simp only[FU,l,i]at e;have o:∃a∈z.A,t∈a.A:=⟨a,AY c,AY l⟩;have p:∃a∈z.A,u∈a.A:=⟨b,AY d,AY i⟩;split at e;exact Nr f h e;split at e;exact Nr f (f z u t h o) e;split at e;exact Nr f (f z t u h p) e;cases e
def ES (P:AE->Prop)(z:AB):Prop:=P z.h/\∀a∈z.A,P a
def ES.put {P z}(h:ES P z){u t}(c:∀a,P a->P (F8 u t a)):ES P (Dj u t z):=
 ⟨c _ h.1,λa e=>by
  obtain⟨b,d,rfl⟩:=AN.1 e
  exact c b (h.2 b d)⟩
def YL {j n z a}(h:a∈(Tq j n z).A):a∈z.A:=by simp only[Tq,AW]at h;obtain (h|h)|h:=h;exact JI (JI h);exact mem_of_mem_drop h;exact JI (mem_of_mem_drop h)
def ES.end {P z}(h:ES P z)(j n):ES P (Tq j n z):=⟨h.1,λa b=>h.2 a (YL b)⟩
def LQ (a:AE):Prop:=Z a.B<=1000/\Z a.A<=1000/\∀t∈a.A,Z t<=901
def WK {x y w j}(g:ES LQ x)(i:ES LQ y)(q:∀a,a=y.h\/a∈y.A->∀t∈a.A,Z t<=900)(h:joinL x j y=some w):ES LQ w:=by
 rw[joinL]at h;cases d:Kj j (Z x.A) (Z y.h.A) 0 (Pv x y)with
 |none=>rw[d]at h;cases h
 |some z=>
  rw[d]at h;cases h;refine ES.end (Nr (I:=ES LQ) (λz u t d ⟨a,c,n⟩=>d.put λb e=>⟨e.1,by simpa[F8]using e.2.1,λv f=>?_⟩) ?_ d) _ _;simp only[F8,AN]at f;obtain⟨o,p,rfl⟩:=f;split;exact (d.2 a c).2.2 t n;exact e.2.2 o p;have m:∀a,a=y.h\/a∈y.A->LQ (Gz a):=λa c=>by
   have l:LQ a:=by
    obtain rfl|c:=c;exact i.1;exact i.2 a c
   refine⟨l.1,by simpa[Gz]using l.2.1,λt k=>?_⟩;simp only[Gz,AN]at k;obtain⟨v,f,rfl⟩:=k;have:=q a c v f;rw[Ta];split;simp;omega;omega
  refine⟨g.1,λa c=>?_⟩;simp only[Pv,AW,BD,AN]at c;obtain c|rfl|⟨b,e,rfl⟩:=c;exact g.2 a c;exact m _ (.inl rfl);exact m b (.inr e)
def WM {j n m k z a}(h:Kj j n m k z=some a):Z a.A=Z z.A:=
 Nr (I:=λw=>Z w.A=Z z.A) (λw u t b _=>by simpa[Dj]using b) rfl h
def WL {x y w j}(h:joinL x j y=some w):Z w.A<=Z x.A+Z y.A+Z x.A:=by
 rw[joinL]at h;cases a:Kj j (Z x.A) (Z y.h.A) 0 (Pv x y)with
 |none=>rw[a]at h;cases h
 |some z=>
  rw[a]at h;cases h;have:=WM a;simp[Pv]at this;simp[Tq];omega
def gr {l x w j q}(h:w∈uR l x j q):∃y∈l,Fw q y/\joinL x j y=some w:=by let⟨y,a,b⟩:=mem_filterMap.1 h;exact⟨y,(BP.1 a).1,(BP.1 a).2,b⟩
def NQ (l:n0):Prop:=∀y∈l,∀a,a=y.h\/a∈y.A->∀t∈a.A,Z t<=900
def NQ.sht {l}(h:NQ l)(c:∀x∈l,x.fits/\x.short){x}(b:x∈l):ES LQ x:=
 ⟨⟨(c x b).2.1.1,(c x b).2.1.2.1,λt d=>Nat.le_succ_of_le (h x b _ (.inl rfl) t d)⟩,λa e=>⟨((c x b).2.2 a e).1,((c x b).2.2 a e).2.1,λt d=>Nat.le_succ_of_le (h x b _ (.inr e) t d)⟩⟩
def TE {l}(h:NQ l)(k:∀x∈l,x.fits/\x.short)(f:∀x∈l,Z x.A<=5){x w}(g:x∈l){j q}(m:w∈uR l x j q):w.fits/\w.short:=by obtain⟨y,d,-,i⟩:=gr m;have b:=WK (h.sht k g) (h.sht k d) (h y d) i;have n:=WL i;have o:=f x g;have e2:=f y d;exact⟨⟨L,b.1.2.1,λa c=>(b.2 a c).2.1⟩,⟨b.1.1,b.1.2.1,λt e=>ny (b.1.2.2 t e)⟩,λa c=>⟨(b.2 a c).1,(b.2 a c).2.1,λt e=>ny ((b.2 a c).2.2 t e)⟩⟩
def okD (l:n0)(i:Nat)(x:AB)(j:Nat)(a:AE):Bool:=!a.nt&&(F7 l a.B&&(!J2 l a.B a.B&&Bb l (rpl i (uR l x j a.B) l)))
def ON (l:n0)(n:Nat):Prop:=∀i x,i<n->l[i]?=some x->∀j a,x.A[j]?=some a->okD l i x j a=false
def LV (l:n0)(o:Option n0):Prop:=
 (o=none/\ON l (Z l))\/∃i x j a,o=some (rpl i (uR l x j a.B) l)/\l[i]?=some x/\x.A[j]?=some a/\okD l i x j a/\ON l i/\∀b c,b<j->x.A[b]?=some c->okD l i x b c=false
def aM (l cs b)(u:r AJ l cs)(hl:Z l<=16)(T:∀x∈l,x.fits/\x.short)(h5:∀x∈l,Z x.A<=5)(hT:NQ l)(ai:∀x∈l,∀a∈x.A,∀y∈l,y.o=false->y.h.B=a.B->Z a.A=Z y.h.A)(d):
  ni 110 [sl b (Z l) cs] d λaj D=>∃o m id c',aj=tp [sl id (Z m) c',my o.isSome]/\LV l o/\(∀K,o=some K->m=K)/\r AJ m c'/\W d D:=by
 have bd:=r.length Cf u;have v:=λa1 d=>W4 l cs b a1 u hl d;have z:=λa1 d=>Sy l cs b a1 a1 u hl (λx hx=>(T x hx).1) d;refine wl func110 ?_;refine X ?_
 refine Ae (λq s D=>∃i:Nat,q=Z l-i/\i<=Z l/\s 0=sl b (Z l) cs/\s 4=Y i/\W d D/\V (ON l i)) (Z l)
  ⟨0,L,L,by simp[upd,AL],AG,W.refl _,λQ N h=>L⟩ ?_
 rintro q s D ⟨i,rfl,hi,h0,h4,G,t⟩;have a0:=G.B;by_cases U:i<Z l
 ·have I:V (l[i]?=some l[i]):=AK U;let⟨jh,jd,jb,r2,aw,a7⟩:=Cv u I.o;have R:=AR U;generalize l[i]=x at I aw a7 R;have ba:=h5 x R;have bb:=r.length A7 aw
  refine X ?_
  refine Ae (λq s D=>∃j:Nat,q=Z x.A-j/\j<=Z x.A/\s 0=sl b (Z l) cs/\s 4=Y i/\s 5=Y j/\W d D/\V (∀c n,c<j->x.A[c]?=some n->okD l i x c n=false)) (Z x.A)
   ⟨0,L,L,by simp[upd,h0],by simp[upd,h4],AG,G,λk' n h=>L⟩ ?_
  clear h0 h4 G a0;rintro q s D ⟨j,rfl,hj,h0,h4,bh,G,p⟩;have a0:=G.B;by_cases am:j<Z x.A
  ·have M:V (x.A[j]?=some x.A[j]):=AK am;let⟨ia,ra,a6⟩:=Ca aw M.o;have a3:=AR am;generalize x.A[j]=a at M a6 a3;have C:=λd=>fL l cs b i j x a u L (λy k=>(T y k).1) (λy k=>ny (h5 y k)) I.o M.o (ai x R a a3) (λy k ah hb ak ht=>ny (hT y k ah hb ak ht)) d;have a4:=QE l x j a.B;have e:=λa2 S (P:r AJ (uR l x j a.B) S) d=>G7 l (uR l x j a.B) cs S b a2 i u P L L U d
   have F:=λaf cm (hm:r AJ (rpl i (uR l x j a.B) l) cm) d=>Gd l (rpl i (uR l x j a.B) l) cs cm b af u hm L (by rw[I4 U];simp;omega) (λy k=>by
    obtain k|k:=Cy k
    ·exact T y k
    exact TE hT T h5 R k) d
   have g:V (okD l i x j a=false->∀c n,c<j+1->x.A[c]?=some n->okD l i x c n=false):=λh c n bc A=>by
    by_cases a5:c=j
    ·subst a5;rw[M.o]at A;cases A;exact h
    exact p.o c n L A
   have E:V (okD l i x j a=true->LV l (some (rpl i (uR l x j a.B) l))):=λh=>.inr ⟨i,x,j,a,rfl,I.o,M.o,h,t.o,p.o⟩;have f:V (okD l i x j a=(!a.nt&&(F7 l a.B&&(!J2 l a.B a.B&&Bb l (rpl i (uR l x j a.B) l))))):=rfl;have v:=v a.B;have z:=z a.B;generalize okD l i x j a=od at g E f;generalize Bb l (rpl i (uR l x j a.B) l)=ab at F f;generalize rpl i (uR l x j a.B) l=ae at e F E;generalize uR l x j a.B=ul at C e a4;generalize F7 l a.B=rb at v f;generalize J2 l a.B a.B=ub at z f;clear p;cases ac:a.nt
   ·cases rb with
    |false=>
     have B:V _:=g.o (by rw[f.o];simp);clear g E f C e F z;refine m0 ?_;intro yb ya;refine Xi (v _) ?_;rintro _ _ ⟨rfl,rfl⟩;refine X ?_;refine⟨Z x.A-(j+1),L,j+1,?_⟩;exact m9 B
    |true=>
     cases ub with
     |true=>
      have B:V _:=g.o (by rw[f.o];simp);clear g E f C e F;refine m0 ?_;intro yb ya;(first|(refine Xi (v _) ?_;rintro _ _ ⟨rfl,rfl⟩)|(refine Xi (z _) ?_;rintro _ _ ⟨rfl,a8⟩));refine mz ?_;(first|(refine Xi (v _) ?_;rintro _ _ ⟨rfl,rfl⟩)|(refine Xi (z _) ?_;rintro _ _ ⟨rfl,a8⟩));refine X ?_;refine⟨Z x.A-(j+1),L,j+1,?_⟩;exact m9 B
     |false=>
      repeat' first|refine Z1 ?_|refine Z8 λyb ya=>?_|refine Z4 ?_;clear ya yb|refine Z2 ?_ ?_<;>intro h aa<;>try exact Xp|(refine Z5 ?_;first|(refine Xi (v _) ?_;rintro _ _ ⟨rfl,rfl⟩)|(refine Xi (z _) ?_;rintro _ _ ⟨rfl,a8⟩)|(refine Xi (C _) ?_;rintro _ _ ⟨a2,S,rfl,P,bg⟩;(have ax:=e a2 S P;clear P))|(refine Xi (ax _) ?_;rintro _ _ ⟨ad,cr,rfl,ay,bf⟩;(have az:=F ad cr ay;have a9:V _:=ay;clear ay))|(refine Xi (az _) ?_;rintro _ _ ⟨rfl,be⟩;(cases ab)))|refine Z3 ?_|exact Zt|apply ya.o;clear ya yb
      ·have B:V _:=g.o (by rw[f.o];simp);clear g E f;refine⟨Z x.A-(j+1),L,j+1,?_⟩
       exact m9 B
      exact⟨_,rfl,some ae,ae,ad,cr,rfl,E.o (by rw[f.o,ac];rfl),(by intro K h;cases h;rfl),a9.o,Xs⟩
   have B:V _:=g.o (by rw[f.o,ac];rfl);clear g E f C e F v z;refine X ?_;refine⟨Z x.A-(j+1),L,j+1,?_⟩;exact m9 B
  have g:V (ON l (i+1)):=λQ N h1 h2 c n A=>by
   by_cases a5:Q=i
   ·subst a5;rw[I.o]at h2;cases h2;exact p.o c n (ny ((BA.1 A).1)) A
   exact t.o Q N L h2 c n A
  clear p t;refine X ?_;refine⟨Z l-(i+1),L,i+1,?_⟩;exact m9 g
 have HR:V (LV l none):=.inl ⟨rfl,λQ N h h'=>t.o Q N L h'⟩;clear t;refine X ?_
 exact⟨_,rfl,none,l,b,cs,rfl,HR.o,(by intro K h;cases h),u⟩
def JN.len {t}(h:JN t):Z t<=900:=by obtain⟨b,rfl,-⟩|rfl|⟨b,a,rfl,-,-,h⟩:=h;simp;simp;simp;omega
def EN.tms {l}(h:EN l):NQ l:=λy j a b t c=>by
 have e:=h.rt.2.1 y j;cases d:y.o
 ·obtain⟨g,-,-,k⟩:=e.rule d;rcases b with rfl|b;exact (g.tm t c).len;exact ((k a b).tm t c).len
 obtain⟨-,f,i⟩:=e.o d;rcases b with rfl|b;rw[f]at c;cases c;rw[i]at b;cases b
def EN.ars {l}(h:EN l):∀x∈l,∀a∈x.A,∀y∈l,y.o=false->y.h.B=a.B->Z a.A=Z y.h.A:=λx e a b y j i g=>by
 let⟨N,k,d⟩:=h.rt.1;have c:x.o=false:=by
  cases f:x.o
  ·rfl
  rw[((h.rt.2.1 x e).o f).2.2]at b;cases b
 rw[((d.ru x e c).A a b).len,(d.ru y j i).h.len,g]
def l9:FO LV 117:=λl A n g C d=>by
 have c:=g.p;have z:=λd=>aM l A n C c.len c.fs c.b5 g.tms g.ars d;have v:V (∀o,LV l o->∀b,o=some b->wB b):=λo h b e=>by
  subst e;obtain⟨h,-⟩|⟨i,x,j,a,h,G,-,E,-⟩:=h;cases h;cases h;have u:Bb l (rpl i (uR l x j a.B) l):=by simp only[okD,BM]at E;exact E.2.2.2
  exact⟨(Gi u).1,(Gi u).2,λy f=>by
   obtain f|f:=Cy f;exact c.fs y f
   exact TE g.tms c.fs c.b5 (AY G) f⟩
 apply wl func63;refine mt z ?_;rintro yb ya _ _ ⟨o,m,id,F,rfl,p,q,s,D⟩;have k:V _:=p;have B:V _:=q;clear p q;refine X ?_;have t:V (∀b,o=some b->m=b/\wB b):=λb e=>⟨B.o b e,v.o o k.o b e⟩
 first|exact⟨_,rfl,o,m,id,F,rfl,k.o,t.o,s,D⟩|exact⟨_,rfl,o,m,id,F,rfl,k.o,t.o,s⟩
end Go.Proofs.YtmoeoppbmhfbpabGreatDoorJ
