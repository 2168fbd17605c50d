import Derived.Test.YtmoeoppbmhfbpabGreatDoorJFacts
set_option maxHeartbeats 16000000
set_option maxRecDepth 100000
set_option linter.all false
open List renaming length->Z
namespace Go.Proofs.YtmoeoppbmhfbpabGreatDoorJ
open Go.Abs
def B6 (c:Int):Bool:=decide (97<=c)&&decide (c<=122)
def Bs (c:Int):Bool:=decide (65<=c)&&decide (c<=90)
def Gv (c:Int):Bool:=decide (49<=c)&&decide (c<=57)
def W0 (c N):ni 197 [sc (.int .u8 c)] N λx a=>x=my (B6 c)/\a=N:=by
 refine Z9 9 [.tmp 2] Tryz.func197 ?_;refine m6 ?_ ?_<;>intro h b
 all_goals exact⟨_,rfl,by simp[B6, *]⟩
def Qg (c N):ni 195 [sc (.int .u8 c)] N λx a=>x=my (Bs c)/\a=N:=by
 refine Z9 9 [.tmp 2] Tryz.func195 ?_;refine m6 ?_ ?_<;>intro h b
 all_goals exact⟨_,rfl,by simp[Bs, *]⟩
def xX (c N):ni 199 [sc (.int .u8 c)] N λx a=>x=my (Gv c)/\a=N:=by
 refine Z9 9 [.tmp 2] Tryz.func199 ?_;refine m6 ?_ ?_<;>intro h b
 all_goals exact⟨_,rfl,by simp[Gv, *]⟩
structure BE where
 st:Int
 items:Int
 letters:Int
 digits:Int
 A:Int
 lits:Int
 h:Bool
def Kc (X:BE):oh:=[ic X.st,ic X.items,ic X.letters,ic X.digits,ic X.A,ic X.lits,my X.h]
def uN (o st a r N)(h:N.C o=a::r):ni 198 [ptr o 0,ic st] N λx b=>x=my true/\b=N.put o (ic st::r):=by
 refine Z9 9 [.tmp 4] Tryz.func198 ?_;refine mr ?_
 first|exact⟨_,rfl,rfl,rfl⟩|exact⟨_,rfl,rfl⟩
structure AQ (o:Nat)(N N':St):Prop where
 B:N.B<=N'.B
 C:∀p,p<N.B->p≠o->N'.C p=N.C p
 ver:∀p,p<N.B->p≠o->N'.ver p=N.ver p
 D:N.D<=N'.D
 top:∀k,k<N.D->N'.top k=N.top k
def AQ.refl (o N):AQ o N N:=⟨AU _,λ_ _ _=>rfl,λ_ _ _=>rfl,AU _,λ_ _=>rfl⟩
def AQ.put {o N c}(h:AQ o N c)(cs):AQ o N (c.put o cs):=
 ⟨h.B,λp b a=>by simp[St.put,a];exact h.C p b a,λp b a=>by simp[St.put,a];exact h.ver p b a,h.D,h.top⟩
def AQ.trans {o a b c}(h:AQ o a b)(k:AQ o b c):AQ o a c:=
 ⟨BI h.B k.B,λp d e=>(k.C p (BZ d h.B) e).trans (h.C p d e),λp d e=>(k.ver p (BZ d h.B) e).trans (h.ver p d e),
  BI h.D k.D,λj f=>(k.top j (BZ f h.D)).trans (h.top j f)⟩
def AQ.keep {o a b c}(h:AD a b)(k:AQ o b c)(f:a.B<=o):AD a c:=
 ⟨BI h.B k.B,λp d=>(k.C p (BZ d h.B) AA).trans (h.C p d),λp d=>(k.ver p (BZ d h.B) AA).trans (h.ver p d),
  BI h.D k.D,λj e=>(k.top j (BZ e h.D)).trans (h.top j e)⟩
def D7 (X:BE)(c:Int):BE×Bool:=
 if (X.st==5)=true then
  if B6 c=true/\decide (X.letters<6)=true then ({X with letters:=X.letters+1},true)
  else if (c==40)=true then ({X with A:=0,st:=6},true)else ({X with A:=0},false)
 else if (X.st==6)=true then
  if Gv c=true then ({X with A:=X.A+1,digits:=1,st:=7},true)
  else if Bs c=true\/(c==48)=true then ({X with A:=X.A+1,digits:=1,st:=8},true)else ({X with A:=X.A+1,digits:=1},false)
 else if (X.st==7)=true/\decide (X.digits<3)=true/\(Gv c=true\/(c==48)=true)then ({X with digits:=X.digits+1},true)
 else if (c==41)=true then ({X with lits:=if (!X.h)=true then X.lits+1 else X.lits,st:=9},true)
 else if (c==44)=true/\decide (X.A<3)=true then ({X with st:=6},true)else (X,false)
def C2 (X:BE)(c:Int):BE×Bool:=
 if (X.st==0)=true then
  if (X.items==16)=true then (X,false)
  else if (c==63)=true then ({X with h:=true,letters:=0,lits:=0,st:=1},true)
  else if B6 c=true then ({X with h:=true,letters:=1,lits:=0,st:=5},true)else ({X with h:=true,letters:=1,lits:=0},false)
 else if (X.st==1)=true\/(X.st==2)=true then
  if B6 c=true/\decide (X.letters<6)=true then ({X with letters:=X.letters+1,st:=2},true)
  else if (c==46)=true/\(X.st==2)=true then ({X with items:=X.items+1,st:=0},true)else (X,false)
 else if (X.st==3)=true\/(X.st==4)=true then
  if (c==33)=true/\(X.st==3)=true then ({X with letters:=1,st:=4},true)
  else if B6 c=true then ({X with letters:=1,st:=5},true)else ({X with letters:=1},false)
 else if (X.st==10)=true then
  if (c==45)=true then ({X with h:=false,st:=3},true)else ({X with h:=false},false)
 else if (c==46)=true then ({X with items:=X.items+1,st:=0},true)
 else if (c==58)=true/\X.h=true then ({X with st:=10},true)
 else if (c==44)=true/\(!X.h)=true/\decide (X.lits<5)=true then ({X with st:=3},true)else (X,false)
def BE.small (X:BE):Prop:=X.items<=100000/\X.letters<=100000/\X.digits<=100000/\X.A<=100000/\X.lits<=100000/\0<=X.items/\0<=X.letters/\0<=X.digits/\0<=X.A/\0<=X.lits
def rX (o X)(k:X.small)(c N)(h:N.C o=Kc X):
  ni 159 [ptr o 0,sc (.int .u8 c)] N λx f=>x=my ((D7 X c).2)/\f.C o=Kc (D7 X c).1/\AQ o N f:=by
 obtain⟨q,r,y,n,s,v,t,m,p,j⟩:=k;obtain⟨l,e,a,b,d,i,g⟩:=X;unfold Kc at*
 simp only at*
 refine Z9 118 [.tmp 4] Tryz.func159 ?_
 repeat' first|refine Z1 ?_|refine Z8 λyb ya=>?_|refine Z4 ?_;clear ya yb|refine Z2 ?_ ?_<;>intro h u<;>try exact Xp|(refine Z5 ?_;first|(refine Xi (W0 _ _) ?_;rintro _ _ ⟨rfl,rfl⟩)|(refine Xi (xX _ _) ?_;rintro _ _ ⟨rfl,rfl⟩)|(refine Xi (Qg _ _) ?_;rintro _ _ ⟨rfl,rfl⟩)|(refine Xi (uN _ _ _ _ _ (by first|assumption|(simp only[Ak];rfl))) ?_;rintro _ _ ⟨rfl,rfl⟩))|refine Z3 ?_|exact Zt|apply ya.o;clear ya yb
 all_goals exact⟨_,rfl,by simp only[D7, *,↓reduceIte,EI,and_self,or_self,GM,and_true,true_or,or_true,false_or,DZ,and_false,false_and,reduceCtorEq,if_true,if_false,NJ,NK,IY,JX],by simp only[D7, *,↓reduceIte,EI,and_self,or_self,GM,and_true,true_or,or_true,false_or,DZ,and_false,false_and,reduceCtorEq,if_true,if_false,NJ,NK,IY,JX],by repeat (first|exact AQ.refl _ _|apply AQ.put)⟩
def rD (o X)(k:X.small)(c N)(h:N.C o=Kc X):
  ni 160 [ptr o 0,sc (.int .u8 c)] N λx f=>x=my ((C2 X c).2)/\f.C o=Kc (C2 X c).1/\AQ o N f:=by
 obtain⟨q,r,y,n,s,v,t,m,p,j⟩:=k;obtain⟨l,e,a,b,d,i,g⟩:=X;unfold Kc at*
 simp only at*
 refine Z9 154 [.tmp 4] Tryz.func160 ?_
 repeat' first|refine Z1 ?_|refine Z8 λyb ya=>?_|refine Z4 ?_;clear ya yb|refine Z2 ?_ ?_<;>intro h u<;>try exact Xp|(refine Z5 ?_;first|(refine Xi (W0 _ _) ?_;rintro _ _ ⟨rfl,rfl⟩)|(refine Xi (uN _ _ _ _ _ (by first|assumption|(simp only[Ak];rfl))) ?_;rintro _ _ ⟨rfl,rfl⟩))|refine Z3 ?_|exact Zt|apply ya.o;clear ya yb
 all_goals exact⟨_,rfl,by simp only[C2, *,↓reduceIte,EI,and_self,or_self,GM,and_true,true_or,or_true,false_or,DZ,and_false,false_and,reduceCtorEq,if_true,if_false,NJ,NK,IY,JX],by simp only[C2, *,↓reduceIte,EI,and_self,or_self,GM,and_true,true_or,or_true,false_or,DZ,and_false,false_and,reduceCtorEq,if_true,if_false,NJ,NK,IY,JX],by repeat (first|exact AQ.refl _ _|apply AQ.put)⟩
def B7 (l:List UInt8)(c:Int):Nat:=l.findIdx λx=>(x.toNat:Int)==c
def R1 (l c):B7 l c<=Z l:=List.findIdx_le_length
def yR (l c k)(e:k<Z l)(b:∀(j:Nat),j<k->∀(x:UInt8),l[j]?=some x->((x.toNat:Int)==c)=false)(a:((l[k].toNat:Int)==c)=true):B7 l c=k:=by
 unfold B7;rw[List.findIdx_eq e];exact⟨a,λj d=>b j d _ (AK _)⟩
def Yx (l c)(a:∀(j:Nat),j<Z l->∀(x:UInt8),l[j]?=some x->((x.toNat:Int)==c)=false):B7 l c=Z l:=by
 unfold B7;rw[List.findIdx_eq_length];intro x d;obtain⟨j,e,b⟩:=List.mem_iff_getElem.1 d;exact a j e x (by rw[<-b];exact AK _)
def Ld (l c)(q:Z l<=100000)(N):ni 61 [str l,sc (.int .u8 c)] N λx b=>x=ic (B7 l c)/\b=N:=by
 refine Z9 20 [.tmp 4] Tryz.func61 ?_;refine mr ?_
 refine Ae (λm s b=>∃k:Nat,m=Z l-k/\k<=Z l/\s 0=str l/\s 1=sc (.int .u8 c)/\s 5=ic k/\b=N/\
  ∀(j:Nat),j<k->∀(x:UInt8),l[j]?=some x->((x.toNat:Int)==c)=false) (Z l) ⟨0,AA,AA,rfl,rfl,rfl,rfl,λj h=>AA⟩ ?_
 rintro m s b ⟨k,rfl,r,o,u,n,rfl,a⟩;by_cases e:k<Z l;have f:=AK e;refine m6 ?_ ?_<;>intro h t;exact⟨_,rfl,by rw[yR l c k e a nu]⟩;refine⟨Z l-(k+1),AA,k+1,rfl,AA,nk,λj p x d=>?_⟩;by_cases g:j=k;subst g;rw[f]at d;cases d;assumption;exact a j AA x d;have i:k=Z l:=AA;refine mr ?_;exact⟨_,rfl,by rw[Yx l c (by rw[i]at a;exact a)]⟩
def Cd (c:Int):List UInt8->Bool->List UInt8->List (List UInt8)
 |[],_,a=>if a=[]then []else [a]
 |b::r,d,a=>
  let f:=if ((b.toNat:Int)==40)=true then true else d
  let e:=if ((b.toNat:Int)==41)=true then false else f
  if ((b.toNat:Int)==c)=true/\e=false then a::Cd c r e []else Cd c r e (a++[b])
def Ix (s:List UInt8)(c:Int):List (List UInt8):=Cd c s false []
def Kn (c):∀(s:List UInt8) (d:Bool) (a:List UInt8),Z (Cd c s d a)<=Z s+1
 |[],d,a=>by unfold Cd;split<;>simp
 |b::r,d,a=>by
  unfold Cd
  all_goals
   simp only[];generalize (if ((b.toNat:Int)==41)=true then false else _)=e;split
   ·have:=Kn c r e [];simp;omega
   have:=Kn c r e (a++[b]);simp;omega
def eW {s:List UInt8}{k}(h:k<Z s):s.drop k=s[k]::s.drop (k+1):=ET h
def wX {s:List UInt8}{f k}(a:f<=k)(h:k<Z s):(s.drop f).take (k+1-f)=(s.drop f).take (k-f)++[s[k]]:=by
 rw[show k+1-f=(k-f)+1 by omega,AT,IJ,show f+(k-f)=k by omega,AK h];rfl
def Sd (l c)(M:Z l<=100000)(N):ni 99 [str l,sc (.int .u8 c)] N λx i=>∃id,x=sl id (Z (Ix l c)) ((Ix l c).map str)/\AD N i:=by
 refine Z9 52 [.tmp 4] Tryz.func99 ?_;refine mr ?_
 refine Ae (λm s i=>∃(k f id:Nat) (d:Bool) (b:List (List UInt8)),m=Z l-k/\k<=Z l/\f<=k/\s 0=str l/\s 1=sc (.int .u8 c)/\s 5=sl id (Z b) (b.map str)/\s 6=my d/\s 7=ic f/\s 8=ic k/\
  AD N i/\Own N i id (Z b)/\Z b<=k/\AC (Ix l c=b++Cd c (l.drop k) d ((l.drop f).take (k-f)))) (Z l) ⟨0,0,1,false,[],AA,AA,AA,rfl,rfl,rfl,rfl,rfl,rfl,AD.refl _,Own.nil _ _,nk,rfl⟩ ?_
 rintro m s i ⟨k,f,id,d,b,rfl,G,A,L,H,F,K,I,J,B,z,P,n⟩;by_cases j:k<Z l
 ·have O:=AK j
  repeat' first|refine Z1 ?_|refine Z8 λyb ya=>?_|refine Z4 ?_;clear ya yb|refine Z2 ?_ ?_<;>intro h E<;>try exact Xp|refine Z6 ?_;intro g t o p v D y C|refine Z3 ?_|exact Zt|apply ya.o;clear ya yb
  all_goals first
   |(refine⟨Z l-(k+1),AA,k+1,k+1,g,_,b++[(l.drop f).take (k-f)],rfl,AA,AA,nk,rfl,nk,nk,nn o,by simp;omega,?_⟩
     have a:=n.o;rw[eW j]at a;simp only[Cd, *,↓reduceIte,and_self,EI]at a;rw[AC,a]
     try first|(simp;done)|(cases d<;>simp at h⊢))
   |(refine⟨Z l-(k+1),AA,k+1,f,id,_,b,rfl,AA,AA,rfl,rfl,rfl,nk,z,AA,?_⟩
     have a:=n.o;rw[eW j]at a;simp only[Cd, *,↓reduceIte,and_self,and_false,false_and,reduceCtorEq,EI]at a;rw[AC,a,wX A j]
     try first|rfl|(cases d<;>simp at h⊢))
 have a:=n.o;have u:k=Z l:=AA;subst u;simp only[IZ,Cd]at a;have r:(l.drop f).take (Z l-f)=l.drop f:=FZ nk;rw[r]at a;have q:=(show AC _ from a);clear a n r
 repeat' first|refine Z1 ?_|refine Z8 λyb ya=>?_|refine Z4 ?_;clear ya yb|refine Z2 ?_ ?_<;>intro h E<;>try exact Xp|refine Z6 ?_;intro g t o p v D y C|refine Z3 ?_|exact Zt|apply ya.o;clear ya yb
 ·first|refine⟨_,rfl,g,?_,p⟩|refine⟨_,rfl,g,?_⟩
  have a:=q.o;rw[if_neg (by intro e;have:=congrArg List.length e;simp at this;omega)]at a;rw[a];simp
  try rw[FZ nk]
 first|refine⟨_,rfl,id,?_,B⟩|refine⟨_,rfl,id,?_⟩
 have a:=q.o;rw[if_pos (by apply GG;simp;omega)]at a;rw[a];simp
structure AE where
 nt:Bool
 B:List UInt8
 A:List (List UInt8)
abbrev oq:=List AE
structure AB where
 o:Bool
 h:AE
 A:oq
abbrev n0:=List AB
def Bf (a:AE)(c:oh):Prop:=∃id,c=[my a.nt,str a.B,sl id (Z a.A) (a.A.map str)]
def A7 (a c)(h:Bf a c):Z c=3:=by obtain⟨id,rfl⟩:=h;rfl
def AJ (x:AB)(c:oh):Prop:=∃h id b,Bf x.h h/\EL Bf x.A b/\c=my x.o::h++[sl id (Z x.A) b]
def Cf (x c)(h:AJ x c):Z c=5:=by
 obtain⟨h,id,b,⟨i,rfl⟩,-,rfl⟩:=h;rfl
def Pr:List UInt8->Bool
 |[]=>false
 |b::_=>(b.toNat:Int)==33
def Jd (s:List UInt8):List UInt8:=if Pr s then (s.drop 1).take (Z s-1)else s
def Ps (a:Bool)(s:List UInt8):AE:=
 {nt:=a,B:=(s.drop 0).take (B7 s 40-0),A:=if B7 s 40+1<Z s then Ix ((s.drop (B7 s 40+1)).take (Z s-1-(B7 s 40+1))) 44 else []}
def D3 (s:List UInt8):AE:=Ps (Pr s) (Jd s)
def Tu (l)(o:Z l<=10000)(N):ni 106 [str l] N λx k=>∃c,x=ag c/\Bf (D3 l) c/\AD N k:=by
 refine Z9 36 [.cell 2 108] Tryz.func106 ?_;have g:∀(m:List UInt8),((B7 m 40:Nat):Int)<=(Z m:Int):=λm=>by have:=R1 m 40;omega
 cases l with
 |nil=>
  have n:(([]:List UInt8)==[])=true:=rfl;have i:=g [];simp only[CQ]at i g;refine m0 ?_;intro yb ya;(first|(refine Xi (Ld _ _ nk _) ?_;rintro _ _ ⟨rfl,rfl⟩)|(refine Xi (Sd _ _ nk _) ?_;rintro _ _ ⟨a,rfl,e⟩;(have f:=e.C;simp only[Aa,Ac]at f)));refine mr ?_;exact⟨_,rfl,_,rfl,⟨1,by simp[D3,Ps,Pr,Jd]⟩,Xs⟩
 |cons b r=>
  have n:(b::r==([]:List UInt8))=false:=rfl;simp only[BQ]at o;have q:(b::r)[0]?=some b:=rfl;have i:=R1 r 40;have j:=R1 (b::r) 40;simp only[BQ]at j
  repeat' first|refine Z1 ?_|refine Z8 λyb ya=>?_|refine Z4 ?_;clear ya yb|refine Z2 ?_ ?_<;>intro h p<;>try exact Xp|(refine Z5 ?_;first|(refine Xi (Ld _ _ (by first|omega|(simp;omega)) _) ?_;rintro _ _ ⟨rfl,rfl⟩)|(refine Xi (Sd _ _ (by first|omega|(simp;omega)) _) ?_;rintro _ _ ⟨a,rfl,e⟩;(have f:=e.C;simp only[Aa,Ac]at f)))|refine Z3 ?_|exact Zt|apply ya.o;clear ya yb
  ·have d:B7 r 40+1<Z r:=AA;exact⟨_,rfl,_,rfl,⟨a,by simp[D3,Ps,Pr,Jd, *]⟩,Xs⟩
  ·have d:¬B7 r 40+1<Z r:=AA;exact⟨_,rfl,_,rfl,⟨1,by simp[D3,Ps,Pr,Jd, *]⟩,Xs⟩
  ·have d:B7 (b::r) 40<Z r:=AA;exact⟨_,rfl,_,rfl,⟨a,by simp[D3,Ps,Pr,Jd, *]⟩,Xs⟩
  have d:¬B7 (b::r) 40<Z r:=AA;exact⟨_,rfl,_,rfl,⟨1,by simp[D3,Ps,Pr,Jd, *]⟩,Xs⟩
def any_take_succ {α:Type}{l:List α}{k a}(p)(h:l[k]?=some a):(l.take (k+1)).any p=((l.take k).any p||p a):=by
 rw[AT,h];simp
def D4 {α:Type}{l:List α}{k:Nat}{a}(p)(h:l[k]?=some a)(b:p a=true):l.any p=true:=
 CU.2 ⟨a,AY h,b⟩
def Ab:List UInt8->Bool
 |[]=>false
 |b::_=>Bs b.toNat
def Cg (l N):ni 152 [str l] N λx c=>x=my (Ab l)/\c=N:=by
 refine Z9 10 [.tmp 2] Tryz.func152 ?_;cases l with
 |nil=>
  have a:(([]:List UInt8)==[])=true:=rfl;refine mr ?_
  all_goals exact⟨_,rfl,by simp[Ab]⟩
 |cons b r=>
  have a:(b::r==([]:List UInt8))=false:=rfl;have d:(b::r)[0]?=some b:=rfl;refine m0 ?_;intro yb ya;refine Xi (Qg _ _) ?_;rintro _ _ ⟨rfl,rfl⟩;refine mr ?_
  all_goals exact⟨_,rfl,by simp[Ab]⟩
def Af (x:AB):oq:=(if x.o=true then []else [x.h])++x.A
abbrev A4 (x:AB)(ih id:Nat)(b:oh):oh:=[my x.o,my x.h.nt,str x.h.B,sl ih (Z x.h.A) (x.h.A.map str),sl id (Z x.A) b]
def AJ.cells {x c}(h:AJ x c):∃ih id b,EL Bf x.A b/\c=A4 x ih id b:=by
 obtain⟨h,id,b,⟨i,rfl⟩,a,rfl⟩:=h;exact⟨i,id,b,a,rfl⟩
def AJ.of {x ih id b}(h:EL Bf x.A b):AJ x (A4 x ih id b):=⟨_,id,b,⟨ih,rfl⟩,h,rfl⟩
def Ca {l cs i a}(h:EL Bf l cs)(d:l[i]?=some a):∃b r,cs.drop (i*3)=my a.nt::str a.B::sl b (Z a.A) (a.A.map str)::r:=by
 obtain⟨c,r,⟨b,rfl⟩,e⟩:=EL.get A7 h d;exact⟨b,r,e⟩
def Yp (x p c)(i:AJ x c)(z:Z x.A<=100000)(N):ni 203 [ag c,str p] N λr d=>r=my (x.A.any λa=>a.B==p)/\AD N d:=by
 obtain⟨j,id,b,g,rfl⟩:=i.cells;have t:=EL.length A7 g;refine Z9 21 [.tmp 4] Tryz.func203 ?_;refine mr ?_
 refine Ae (λm s d=>∃k:Nat,m=Z x.A-k/\k<=Z x.A/\s 2=ptr N.B 0/\s 1=str p/\s 5=ic k/\d=N.new (A4 x j id b)/\AC ((x.A.take k).any (λa=>a.B==p)=false)) (Z x.A)
  ⟨0,AA,AA,rfl,rfl,rfl,rfl,by simp[AC]⟩ ?_
 rintro m s d ⟨k,rfl,u,v,A,n,rfl,e⟩;by_cases f:k<Z x.A;obtain⟨o,r,q⟩:=Ca g (AK f);refine m6 ?_ ?_<;>intro h y;exact⟨_,rfl,by rw[D4 _ (AK f) nu],Xs⟩;exact⟨Z x.A-(k+1),AA,k+1,rfl,AA,nk,by rw[AC,any_take_succ _ (AK f),e.o];simpa using h⟩;have l:k=Z x.A:=AA;subst l;rw[AS]at e;refine mr ?_;exact⟨_,rfl,by rw[e.o],Xs⟩
def P8 (x:AB):oq:=if x.o=true then []else [x.h]
def oN (x:AB)(ih id:Nat)(b:oh)(N:St)(m:Nat)(s:Sl)(c:St):Prop:=
 ∃(k a:Nat) (d:oh),m=Z x.A-k/\k<=Z x.A/\s 1=ptr N.B 0/\s 3=sl a (Z (P8 x)+k) d/\s 4=ic k/\AD N c/\Own N c a (Z (P8 x)+k)/\
  c.C N.B=A4 x ih id b/\N.B<c.B/\AC (EL Bf (P8 x++x.A.take k) d)
def Qq (x c)(F:AJ x c)(O:Z x.A<=100000)(N):ni 114 [ag c] N λr i=>∃id cs,r=sl id (Z (Af x)) cs/\EL Bf (Af x) cs/\AD N i:=by
 obtain⟨z,id,b,v,rfl⟩:=F.cells;have M:=EL.length A7 v;have J:Z (P8 x)<=1:=by unfold P8;split<;>simp
 refine Z9 29 [.tmp 2] Tryz.func114 ?_;refine m6 ?_ ?_<;>intro h P;refine Ae (oN x z id b N) (Z x.A) ⟨0,_,_,AA,AA,rfl,by unfold P8;rw[if_neg (nn h)];rfl,rfl,Xs,?_,by simp[St.new,St.lay],by simp[St.new,St.lay],?_⟩ ?_;unfold P8;rw[if_neg (nn h)];exact Own.made (Xs) nr;unfold P8;rw[if_neg (nn h)];exact EL.single ⟨_,rfl⟩;rintro m s i ⟨k,a,g,rfl,o,p,E,L,q,D,t,B,d⟩;have n:=EL.length A7 d.o;simp only[AX,CN,ER o]at n;by_cases f:k<Z x.A;obtain⟨H,r,I⟩:=Ca v (AK f);refine m5 ?_;intro yb ya;intro e A j l u G C K;refine mr ?_;refine⟨Z x.A-(k+1),AA,k+1,e,_,rfl,AA,by simp[upd,p],rfl,AG,l,by simpa[ID]using j,by rw[u];exact t,AA,?_⟩;rw[AC,AT,AK f,<-CR];exact d.o.append (EL.single ⟨_,rfl⟩);have y:k=Z x.A:=AA;subst y;rw[AS]at d;refine mr ?_
 first|exact⟨_,rfl,a,g,by simp[Af,P8],d.o,q⟩|exact⟨_,rfl,a,g,by simp[Af,P8],d.o⟩
 refine Ae (oN x z id b N) (Z x.A) ⟨0,_,_,AA,AA,rfl,by unfold P8;rw[if_pos (nn h)];rfl,rfl,Xs,?_,by simp[St.new,St.lay],by simp[St.new,St.lay],?_⟩ ?_;unfold P8;rw[if_pos (nn h)];exact Own.nil _ _;unfold P8;rw[if_pos (nn h)];rfl;rintro m s i ⟨k,a,g,rfl,o,p,E,L,q,D,t,B,d⟩;have n:=EL.length A7 d.o;simp only[AX,CN,ER o]at n;by_cases f:k<Z x.A;obtain⟨H,r,I⟩:=Ca v (AK f);refine m5 ?_;intro yb ya;intro e A j l u G C K;refine mr ?_;refine⟨Z x.A-(k+1),AA,k+1,e,_,rfl,AA,by simp[upd,p],rfl,AG,l,by simpa[ID]using j,by rw[u];exact t,AA,?_⟩;rw[AC,AT,AK f,<-CR];exact d.o.append (EL.single ⟨_,rfl⟩);have y:k=Z x.A:=AA;subst y;rw[AS]at d;refine mr ?_
 first|exact⟨_,rfl,a,g,by simp[Af,P8],d.o,q⟩|exact⟨_,rfl,a,g,by simp[Af,P8],d.o⟩
def OO (a:AE)(t:List UInt8)(k:Nat):Prop:=(a.A.take k).any (λu=>!a.nt&&u==t)=false
def OE (x:AB)(t:List UInt8)(j:Nat):Prop:=(x.A.take j).any (λa=>a.A.any λu=>!a.nt&&u==t)=false
def Ma (x:AB)(t:List UInt8):Bool:=x.A.any λa=>a.A.any λu=>!a.nt&&u==t
def A1 {l k}(h:k<Z l):(l.map str).drop k=str l[k]::(l.map str).drop (k+1):=by
 rw[ET (nn h)];simp
def sP (x t c)(B:AJ x c)(Q:Z x.A<=100000)(C:∀a∈x.A,Z a.A<=100000)(N):ni 168 [ag c,str t] N λr d=>r=my (Ma x t)/\AD N d:=by
 obtain⟨o,id,b,u,rfl⟩:=B.cells;have O:=EL.length A7 u;refine Z9 45 [.tmp 4] Tryz.func168 ?_;refine mr ?_
 refine Ae (λm s d=>∃j:Nat,m=Z x.A-j/\j<=Z x.A/\s 2=ptr N.B 0/\s 1=str t/\s 5=ic j/\d=N.new (A4 x o id b)/\OE x t j) (Z x.A)
  ⟨0,AA,AA,rfl,rfl,rfl,rfl,by simp[OE]⟩ ?_
 rintro m s d ⟨j,rfl,L,z,A,v,rfl,e⟩;by_cases f:j<Z x.A
 ·obtain⟨M,r,D⟩:=Ca u (AK f);have n:=AK f;have y:=C x.A[j] (AR f);generalize x.A[j]=a at D n y;have p:AC (x.A[j]?=some a):=n;clear n
  refine mr ?_
  refine Ae (λq s d=>∃k:Nat,q=Z a.A-k/\k<=Z a.A/\s 2=ptr N.B 0/\s 1=str t/\s 5=ic j/\s 6=ic k/\d=N.new (A4 x o id b)/\OO a t k) (Z a.A)
   ⟨0,AA,AA,by simp[upd,z],by simp[upd,A],by simp[upd,v],rfl,rfl,by simp[OO]⟩ ?_
  rintro q P E ⟨k,rfl,I,F,J,K,G,rfl,i⟩;by_cases l:k<Z a.A
  ·have H:=A1 l
   repeat' first|refine Z1 ?_|refine Z8 λyb ya=>?_|refine Z4 ?_;clear ya yb|refine Z2 ?_ ?_<;>intro h R<;>try exact Xp|refine Z3 ?_|exact Zt|apply ya.o;clear ya yb
   ·exact⟨_,rfl,by rw[Ma,D4 _ p.o (D4 _ (AK l) (by simp[*]))],Xs⟩
   all_goals exact⟨Z a.A-(k+1),AA,k+1,rfl,AA,nk,by unfold OO at*;rw[any_take_succ _ (AK l),i];simp[*]⟩
  have g:k=Z a.A:=AA;subst g;refine mr ?_;refine⟨Z x.A-(j+1),AA,j+1,rfl,AA,nk,?_⟩;unfold OE OO at*
  rw[AS]at i;rw[any_take_succ _ p.o,e,i];rfl
 have g:j=Z x.A:=AA;subst g;refine mr ?_;unfold OE at e;rw[AS]at e;exact⟨_,rfl,by rw[Ma,e],Xs⟩
def bC (x:AB)(t:List UInt8):Bool:=Ab t&&!Ma x t
def zI (x:AB)(a:AE):Bool:=a.A.any (bC x)
def Db (x:AB):Bool:=!(Af x).any (zI x)
def NX (x:AB)(a:AE)(k:Nat):Prop:=(a.A.take k).any (bC x)=false
def OM (x:AB)(j:Nat):Prop:=((Af x).take j).any (zI x)=false
def AB.fits (x:AB):Prop:=Z x.A<=1000/\Z x.h.A<=1000/\∀a∈x.A,Z a.A<=1000
def dJ (x c)(I:AJ x c)(M:x.fits)(N):ni 113 [ag c] N λr e=>r=my (Db x)/\AD N e:=by
 have G:=I;obtain⟨y,id,b,hb,rfl⟩:=I.cells;obtain⟨f1,U,J⟩:=M;have P:∀a∈x.A,Z a.A<=100000:=λa d=>by have:=J a d;omega
 have a0:Z (Af x)<=1001:=by unfold Af;split<;>simp<;>omega
 have X:∀a∈Af x,Z a.A<=1000:=by
  intro a d;unfold Af at d;rw[AW]at d;rcases d with d|d
  ·split at d
   ·cases d
   simp at d;subst d;exact U
  exact J a d
 refine Z9 41 [.tmp 2] Tryz.func113 ?_;refine m0 ?_;intro yb ya;refine Xi (Qq _ _ G AA _) ?_;rintro _ _ ⟨f,A,rfl,K,i⟩;(have v:=i.C _ (by rw[Aa];exact Nat.lt_succ_self _);rw[Ao]at v;have H:=i.B;rw[Aa]at H);refine mr ?_;have az:=EL.length A7 K;rename_i Q;have L:AD N Q:=((AD.refl N).new _).trans i
 refine Ae (λm s e=>∃j:Nat,m=Z (Af x)-j/\j<=Z (Af x)/\s 1=ptr N.B 0/\s 3=sl f (Z (Af x)) A/\s 4=ic j/\AD N e/\e.C N.B=A4 x y id b/\N.B<e.B/\OM x j) (Z (Af x))
  ⟨0,AA,AA,rfl,rfl,rfl,L,v,AA,by simp[OM]⟩ ?_
 rintro m s e ⟨j,rfl,hj,T,O,S,E,D,z,g⟩;clear i L v H;by_cases q:j<Z (Af x)
 ·obtain⟨ia,r,R⟩:=Ca K (AK q);have o:=AK q;have W:=X (Af x)[j] (AR q);generalize (Af x)[j]=a at R o W;have B:AC ((Af x)[j]?=some a):=o;clear o
  refine mr ?_
  refine Ae (λC s e=>∃k:Nat,C=Z a.A-k/\k<=Z a.A/\s 1=ptr N.B 0/\s 3=sl f (Z (Af x)) A/\s 4=ic j/\s 5=ic k/\AD N e/\e.C N.B=A4 x y id b/\N.B<e.B/\NX x a k) (Z a.A)
   ⟨0,AA,AA,by simp[upd,T],by simp[upd,O],by simp[upd,S],rfl,E,D,z,by simp[NX]⟩ ?_
  rintro C s2 N2 ⟨k,rfl,hk,g1,g3,g4,g5,Y,ay,p,l⟩;clear E D z;by_cases F:k<Z a.A
  ·have ax:=A1 F
   repeat' first|refine Z1 ?_|refine Z8 λyb ya=>?_|refine Z4 ?_;clear ya yb|refine Z2 ?_ ?_<;>intro h ab<;>try exact Xp|(refine Z5 ?_;first|(refine Xi (Cg _ _) ?_;rintro _ _ ⟨rfl,rfl⟩)|(refine Xi (sP _ _ _ G AA P _) ?_;rintro _ _ ⟨rfl,n⟩;(have kb:=n.C _ p;have V:=n.B)))|refine Z3 ?_|exact Zt|apply ya.o;clear ya yb
   all_goals
    have t:=AK F
    first
    |exact⟨_,rfl,by rw[Db,D4 _ B.o (D4 (bC x) t (by simp[bC, *]))];rfl,Xs⟩
    |exact⟨Z a.A-(k+1),AA,k+1,rfl,AA,nk,Y.trans n,AA,by unfold NX at*;rw[any_take_succ _ t,l];simp[bC, *]⟩
    |exact⟨Z a.A-(k+1),AA,k+1,rfl,AA,nk,by unfold NX at*;rw[any_take_succ _ t,l];simp[bC, *]⟩
  have u:k=Z a.A:=AA;subst u;refine mr ?_;refine⟨Z (Af x)-(j+1),AA,j+1,rfl,AA,nk,?_⟩;unfold OM NX at*
  rw[AS]at l;rw[any_take_succ _ B.o,g,zI,l];rfl
 have u:j=Z (Af x):=AA;subst u;refine mr ?_;unfold OM at g;rw[AS]at g
 first
 |exact⟨_,rfl,by rw[Db,g];rfl,Xs⟩
 |exact⟨_,rfl,by rw[Db,g];rfl⟩
def J6:BE:=⟨0,0,0,0,0,0,false⟩
def A9 (X:BE)(c:UInt8):BE×Bool:=
 if decide (5<=X.st)=true/\decide (X.st<=8)=true then D7 X c.toNat else C2 X c.toNat
def M8:BE->List UInt8->Nat->BE×Option Nat
 |X,[],_=>(X,none)
 |X,c::r,i=>if (A9 X c).2=true then M8 (A9 X c).1 r (i+1)else ((A9 X c).1,some i)
def Eo (s:List UInt8):Int:=
 match (M8 J6 s 0).2 with
 |some i=>i
 |none=>if (M8 J6 s 0).1.st !=0 then Z s else -1
def BE.upto (X:BE)(k:Nat):Prop:=X.items<=k/\X.letters<=k+1/\X.digits<=k+1/\X.A<=k+1/\X.lits<=k+1/\0<=X.items/\0<=X.letters/\0<=X.digits/\0<=X.A/\0<=X.lits
def bK {X k}(h:X.upto k)(c):(A9 X c).1.upto (k+1):=by
 obtain⟨l,f,i,m,a,g,b,d,e,j⟩:=h;unfold A9 D7 C2 BE.upto
 repeat' split
 all_goals (simp only[];((repeat' first|constructor|split<;>omega|omega)))
def pU {X:BE}{k}(h:X.upto k)(g:k<=10000):X.small:=by
 obtain⟨l,i,j,m,f,d,a,b,c,e⟩:=h;exact⟨AA,AA,AA,AA,AA,d,a,b,c,e⟩
def iG (l:List UInt8)(k:Nat)(X:BE):Prop:=M8 J6 l 0=M8 X (l.drop k) k
def Oe {l k X}(h:k<Z l):M8 X (l.drop k) k=if (A9 X l[k]).2=true then M8 (A9 X l[k]).1 (l.drop (k+1)) (k+1)else ((A9 X l[k]).1,some k):=by
 rw[ET h];rfl
def X4 (l)(B:Z l<=1000)(N):ni 104 [str l] N λx d=>x=ic (Eo l)/\AD N d:=by
 refine Z9 46 [.tmp 2] Tryz.func104 ?_;refine mr ?_
 refine Ae (λm s d=>∃(k:Nat) (X:BE),m=Z l-k/\k<=Z l/\s 0=str l/\s 3=ptr N.B 0/\s 4=ic k/\AD N d/\d.C N.B=Kc X/\N.B<d.B/\X.upto k/\iG l k X) (Z l)
  ⟨0,J6,AA,AA,rfl,rfl,rfl,Xs,by simp[St.new];rfl,by simp[St.new],by simp[BE.upto,J6],rfl⟩ ?_
 rintro m s d ⟨k,X,rfl,y,A,z,D,e,o,C,j,g⟩;have p:=pU j AA;have n:=o;unfold Kc at o;by_cases f:k<Z l
 ·have v:=AK f
  repeat' first|refine Z1 ?_|refine Z8 λyb ya=>?_|refine Z4 ?_;clear ya yb|refine Z2 ?_ ?_<;>intro h u<;>try exact Xp|(refine Z5 ?_;first|(refine Xi (rX _ X p _ _ n) ?_;rintro _ _ ⟨rfl,q,b⟩;(have i:=b.B))|(refine Xi (rD _ X p _ _ n) ?_;rintro _ _ ⟨rfl,q,b⟩;(have i:=b.B)))|refine Z3 ?_|exact Zt|apply ya.o;clear ya yb
  all_goals
   first
   |(have a:A9 X l[k]=D7 X l[k].toNat:=by simp[A9, *]
     first
     |exact⟨_,rfl,by rw[Eo,show M8 J6 l 0=_ from g,Oe f,a,h];rfl,AQ.keep e b (AU _)⟩
     |exact⟨Z l-(k+1),AA,k+1,_,rfl,AA,nk,AQ.keep e b (AU _),rfl,AA,by rw[<-a];exact bK j _,by rw[iG,show M8 J6 l 0=_ from g,Oe f,a,h];rfl⟩)
   |(have a:A9 X l[k]=C2 X l[k].toNat:=by simp only[A9, *,EI,false_and,and_false,↓reduceIte]
     first
     |exact⟨_,rfl,by rw[Eo,show M8 J6 l 0=_ from g,Oe f,a,h];rfl,AQ.keep e b (AU _)⟩
     |exact⟨Z l-(k+1),AA,k+1,_,rfl,AA,nk,AQ.keep e b (AU _),rfl,AA,by rw[<-a];exact bK j _,by rw[iG,show M8 J6 l 0=_ from g,Oe f,a,h];rfl⟩)
 have r:k=Z l:=AA;subst r;have c:M8 J6 l 0=(X,none):=by rw[show M8 J6 l 0=_ from g,IZ];rfl
 have t:AC _:=c;clear c;refine m6 ?_ ?_<;>intro h u
 all_goals
  have c:=t.o
  first
  |exact⟨_,rfl,by simp[Eo,c, *],e⟩
  |exact⟨_,rfl,by simp[Eo,c, *]⟩
  |exact⟨_,rfl,by simp[Eo,c];simpa using h⟩
def Gr (M:Nat->Nat->Bool):oh:=(List.range 256).map λn=>my (M (n / 16) (n % 16))
def set2 (M:Nat->Nat->Bool)(i k:Nat)(v:Bool):Nat->Nat->Bool:=λa b=>if a=i/\b=k then v else M a b
def Ia (M):Z (Gr M)=256:=by simp[Gr]
def R4 (M){i k}(e:i<16)(d:k<16):(Gr M)[i*16+k]?=some (my (M i k)):=by
 have b:i*16+k<256:=AA;have c:(i*16+k) / 16=i:=AA;have a:(i*16+k) % 16=k:=AA;simp[Gr,b,c,a]
def Y2 (M){i k}(f:i<16)(e:k<16)(v):(Gr M).set (i*16+k) (my v)=Gr (set2 M i k v):=by
 apply FL;intro n;rw[GH];by_cases a:n<256;by_cases b:i*16+k=n;subst b;have c:(i*16+k) / 16=i:=AA;have d:(i*16+k) % 16=k:=AA;simp[Gr,a,c,d,set2];have:¬(n / 16=i/\n % 16=k):=AA;simp[Gr,a,b,set2,this];have:i*16+k≠n:=AA;simp[Gr,a,this]
def eS:Pg 256 (.bool false)=Gr λ_ _=>false:=by
 apply FL;intro n;by_cases a:n<256;simp only[Gr,Pg,cst1,List.getElem?_replicate,DC,List.getElem?_range a,GJ,a,if_true];simp only[Pg,List.getElem?_replicate,if_neg a];rw[FD (by rw[Ia];omega)]
def Cv {l cs i x}(h:EL AJ l cs)(f:l[i]?=some x):∃ih id b r,EL Bf x.A b/\cs.drop (i*5)=my x.o::my x.h.nt::str x.h.B::sl ih (Z x.h.A) (x.h.A.map str)::sl id (Z x.A) b::r:=by
 obtain⟨c,r,a,e⟩:=EL.get Cf h f;obtain⟨ih,id,b,d,rfl⟩:=a.cells;exact⟨ih,id,b,r,d,e⟩
def Ny (l:n0)(i k:Nat):Bool:=
 match l[i]?,l[k]? with
 |some x,some y=>!y.o&&x.A.any λa=>a.B==y.h.B
 |_,_=>false
def Uc (l:n0)(i k:Nat)(M:Nat->Nat->Bool):Prop:=∀a b,M a b=if (a<i/\b<Z l)\/(a=i/\b<k)then Ny l a b else false
def I8 {l xs}(h:Z xs=Z l):lsp l 0 xs=xs:=by
 rw[Hw _ _ _ AA,DY,h,IZ];simp
def fw (M:Nat->Nat->Bool)(m:Nat):Nat->Nat->Bool:=λi k=>M i k||(M i m&&M m k)
def NV (n:Nat)(M:Nat->Nat->Bool)(m:Nat):Nat->Nat->Bool:=λi k=>if i<n/\k<n then fw M m i k else M i k
def F9 (n:Nat)(M:Nat->Nat->Bool):Nat->Nat->Nat->Bool
 |0=>M
 |m+1=>NV n (F9 n M m) m
def part (n:Nat)(M:Nat->Nat->Bool)(m i k:Nat)(W:Nat->Nat->Bool):Prop:=∀a b,W a b=if (a<i/\b<n)\/(a=i/\b<k)then fw M m a b else M a b
def aK (l:n0):Nat->Nat->Bool:=F9 (Z l) (λa b=>if a<Z l/\b<Z l then Ny l a b else false) (Z l)
def X7 {n M W m i k}(h:part n M m i k W)(a:k<n)(b:m<n):W i k=M i k/\W i m=M i m/\W m k=M m k:=by
 refine⟨?_,?_,?_⟩;rw[h,if_neg AA];rw[h];split;unfold fw;cases M i m<;>simp;rfl;rw[h];split;unfold fw;cases M m k<;>simp;rfl
def mE {n M W m i k}(h:part n M m i k W){v}(e:v=fw M m i k):part n M m i (k+1) (set2 W i k v):=by
 intro a b;unfold set2;by_cases d:a=i/\b=k;obtain⟨rfl,rfl⟩:=d;rw[if_pos ⟨rfl,rfl⟩,if_pos AA];exact e;rw[if_neg d,h];by_cases c:(a<i/\b<n)\/(a=i/\b<k);rw[if_pos c,if_pos AA];rw[if_neg c,if_neg AA]
def mF {n M W m i}(h:part n M m i n W):part n M m (i+1) 0 W:=by
 intro a b;rw[h];by_cases c:(a<i/\b<n)\/(a=i/\b<n);rw[if_pos c,if_pos AA];rw[if_neg c,if_neg AA]
def dV {n M m}:part n M m 0 0 M:=by intro a b;rw[if_neg AA]
def mG {n M W m}(h:part n M m n 0 W):W=NV n M m:=by
 funext a b;rw[h];unfold NV;by_cases c:a<n/\b<n;rw[if_pos AA,if_pos c];rw[if_neg AA,if_neg c]
def nJ {l M i k}(h:Uc l i k M)(v)(e:v=Ny l i k):Uc l i (k+1) (set2 M i k v):=by
 intro a b;unfold set2;by_cases d:a=i/\b=k;obtain⟨rfl,rfl⟩:=d;rw[if_pos ⟨rfl,rfl⟩,if_pos AA];exact e;rw[if_neg d,h];by_cases c:(a<i/\b<Z l)\/(a=i/\b<k);rw[if_pos c,if_pos AA];rw[if_neg c,if_neg AA]
def WF {l M i}(h:Uc l i (Z l) M):Uc l (i+1) 0 M:=by
 intro a b;rw[h];by_cases c:(a<i/\b<Z l)\/(a=i/\b<Z l);rw[if_pos c,if_pos AA];rw[if_neg c,if_neg AA]
def WG {l M}(h:Uc l (Z l) 0 M):M=λa b=>if a<Z l/\b<Z l then Ny l a b else false:=by
 funext a b;rw[h];by_cases c:a<Z l/\b<Z l;rw[if_pos AA,if_pos c];rw[if_neg AA,if_neg c]
def UG (l cs idl)(F:EL AJ l cs)(hl:Z l<=16)(hf:∀x∈l,x.fits)(N):ni 170 [sl idl (Z l) cs] N λr c=>r=ag (Gr (aK l))/\AD N c:=by
 have a4:=EL.length Cf F;have ax:=Ia;refine Z9 86 [.cell 2 220] Tryz.func170 ?_;refine mr ?_
 refine Ae (λm s c=>∃(i:Nat) (M:Nat->Nat->Bool),m=Z l-i/\i<=Z l/\s 0=sl idl (Z l) cs/\s 2=ptr N.B 0/\s 3=ptr (N.B+1) 0/\s 4=ic i/\AD N c/\c.C (N.B+1)=Gr M/\N.B+1<c.B/\Z (c.C N.B)=256/\Uc l i 0 M) (Z l)
  ⟨0,λ_ _=>false,AA,AA,rfl,rfl,rfl,rfl,Xs,by rw[Be (by rw[Aa];exact AU _) (by rw[Aa];exact AU _),eS],by simp[Aa],by rw[Ah (by rw[Aa];omega),Ao,eS,Ia],by simp[Uc]⟩ ?_
 rintro m s c ⟨i,M,rfl,H,o,j,n,A,d,e,g,f,p⟩;by_cases u:i<Z l
 ·refine mr ?_
  refine Ae (λm s c=>∃(k:Nat) (M:Nat->Nat->Bool),m=Z l-k/\k<=Z l/\s 0=sl idl (Z l) cs/\s 2=ptr N.B 0/\s 3=ptr (N.B+1) 0/\s 4=ic i/\s 5=ic k/\AD N c/\c.C (N.B+1)=Gr M/\N.B+1<c.B/\Z (c.C N.B)=256/\Uc l i k M) (Z l)
   ⟨0,M,AA,AA,by simp[upd,o],by simp[upd,j],by simp[upd,n],by simp[upd,A],rfl,d,e,g,f,p⟩ ?_
  clear d e g f p;rintro m s c ⟨k,M,rfl,S,o,j,n,A,h5,d,e,g,f,p⟩;by_cases y:k<Z l
  ·obtain⟨T,R,b1,r1,an,a3⟩:=Cv F (AK u);obtain⟨V,U,b2,r2,a5,a0⟩:=Cv F (AK y);have Q:=hf l[i] (AR u)
   refine mr ?_;refine Ax Ag (λ_=>True) [23] [0,1,2,3,4,5,6,7,8,9,10,11,12,13,14,15,16,17,18,21] [19,20,22,23] AH (λ_ _ _ h=>h) ?_;intro yb ya;refine Z3 ?_
   repeat' first|refine Z1 ?_|refine Z8 λyb ya=>?_|refine Z4 ?_;clear ya yb|refine Z2 ?_ ?_<;>intro h z<;>try exact Xp|refine Z5 ?_;refine Xi (Yp _ _ _ (AJ.of an) (by have:=Q.1;omega) _) ?_;rintro _ _ ⟨rfl,C⟩;(have av:=C.C;have aw:=C.B)|refine Z3 ?_|exact Zt|apply ya.o;clear ya yb
   ·exact⟨Z l-(k+1),AA,k+1,_,rfl,AA,nk,(d.trans C).put AA _,Y2 M AA AA _,AA,nJ p _ (by simp[Ny,u,y, *])⟩
   exact⟨Z l-(k+1),AA,k+1,_,rfl,AA,nk,d.put AA _,Y2 M AA AA _,nJ p _ (by simp[Ny,u,y, *])⟩
  have D:k=Z l:=AA;subst D;refine mr ?_;exact⟨Z l-(i+1),AA,i+1,M,rfl,AA,nk,rfl,WF p⟩
 have B:i=Z l:=AA;subst B;have Y:=WG p;subst Y;clear p;refine mw ?_;intro h z;generalize G:(λ(a b:Nat)=>if a<Z l/\b<Z l then Ny l a b else false)=O at e;have au:AC _:=G;clear G
 refine Ae (λq s c=>∃m:Nat,q=Z l-m/\m<=Z l/\s 0=sl idl (Z l) cs/\s 2=ptr N.B 0/\s 3=ptr (N.B+1) 0/\s 6=ic m/\AD N c/\c.C (N.B+1)=Gr (F9 (Z l) O m)/\N.B+1<c.B/\Z (c.C N.B)=256) (Z l)
  ⟨0,AA,AA,by simp[upd,o],by simp[upd,j],by simp[upd,n],rfl,d,e,g,f⟩ ?_
 clear d e g f o j n A h z u H;rintro q s c ⟨m,rfl,hm,o,j,n,v,d,e,g,f⟩;by_cases u:m<Z l
 ·generalize K:F9 (Z l) O m=M at e;have ap:AC _:=K;clear K
  refine mr ?_
  refine Ae (λq s c=>∃(i:Nat) (W:Nat->Nat->Bool),q=Z l-i/\i<=Z l/\s 0=sl idl (Z l) cs/\s 2=ptr N.B 0/\s 3=ptr (N.B+1) 0/\s 6=ic m/\s 7=ic i/\AD N c/\c.C (N.B+1)=Gr W/\N.B+1<c.B/\Z (c.C N.B)=256/\part (Z l) M m i 0 W) (Z l)
   ⟨0,M,AA,AA,by simp[upd,o],by simp[upd,j],by simp[upd,n],by simp[upd,v],rfl,d,e,g,f,dV⟩ ?_
  clear d e g f o j n v;rintro q s c ⟨i,W,rfl,H,o,j,n,v,E,d,e,g,f,t⟩;by_cases y:i<Z l
  ·refine mr ?_
   refine Ae (λq s c=>∃(k:Nat) (W:Nat->Nat->Bool),q=Z l-k/\k<=Z l/\s 0=sl idl (Z l) cs/\s 2=ptr N.B 0/\s 3=ptr (N.B+1) 0/\s 6=ic m/\s 7=ic i/\s 8=ic k/\AD N c/\c.C (N.B+1)=Gr W/\N.B+1<c.B/\Z (c.C N.B)=256/\part (Z l) M m i k W) (Z l)
    ⟨0,W,AA,AA,by simp[upd,o],by simp[upd,j],by simp[upd,n],by simp[upd,v],by simp[upd,E],rfl,d,e,g,f,t⟩ ?_
   clear d e g f o j n v E t;rintro q s c ⟨k,W,rfl,S,o,j,n,v,E,h8,d,e,g,f,t⟩;by_cases ad:k<Z l
   ·obtain⟨L,I,J⟩:=X7 t ad u;have g1:=R4 W (i:=i) (k:=k) AA AA;have g2:=R4 W (i:=i) (k:=m) AA AA;have g3:=R4 W (i:=m) (k:=k) AA AA;have P:AC (W i k=M i k/\W i m=M i m/\W m k=M m k):=⟨L,I,J⟩;clear L I J
    refine mr ?_;refine Ax Ag (λ_=>True) [23] [0,1,2,3,4,5,6,7,8,9,10,11,12,13,14,15,16,17,18,19,20,21] [22,23] AH (λ_ _ _ h=>h) ?_;intro yb ya;refine Z3 ?_
    repeat' first|refine Z1 ?_|refine Z8 λyb ya=>?_|refine Z4 ?_;clear ya yb|refine Z2 ?_ ?_<;>intro h z<;>try exact Xp|refine Z3 ?_|exact Zt|apply ya.o;clear ya yb
    all_goals exact⟨Z l-(k+1),AA,k+1,_,rfl,AA,nk,d.put AA _,Y2 W AA AA _,mE t (by have hv:=P.o;simp_all [fw])⟩
   have D:k=Z l:=AA;subst D;refine mr ?_;exact⟨Z l-(i+1),AA,i+1,W,rfl,AA,nk,rfl,mF t⟩
  have B:i=Z l:=AA;subst B;refine mr ?_;refine⟨Z l-(m+1),AA,m+1,rfl,AA,nk,?_⟩;rw[mG t,<-ap.o];rfl
 have X:m=Z l:=AA;subst X;have ay:∀M,List.take 256 (Gr M)=Gr M:=λM=>FZ (by rw[Ia];exact AU _);have az:∀M,lsp (c.C N.B) 0 (Gr M)=Gr M:=λM=>I8 (by rw[Ia,f]);refine mr ?_;exact⟨_,rfl,by rw[aK,au.o],d.put (AU _) _⟩
def Kl (l:n0)(i:Nat):List UInt8:=match l[i]? with|some x=>x.h.B|none=>[]
def rZ (l:n0)(p q:List UInt8)(i k:Nat):Bool:=aK l i k&&Kl l i==p&&Kl l k==q
def J2 (l:n0)(p q:List UInt8):Bool:=(List.range (Z l)).any λi=>(List.range (Z l)).any λk=>rZ l p q i k
def ll (l:n0)(p q:List UInt8)(i:Nat):Prop:=∀a,a<i->∀b,b<Z l->rZ l p q a b=false
def lk (l:n0)(p q:List UInt8)(i k:Nat):Prop:=∀b,b<k->rZ l p q i b=false
def Sy (l cs idl p q)(o:EL AJ l cs)(U:Z l<=16)(V:∀x∈l,x.fits)(N):ni 166 [sl idl (Z l) cs,str p,str q] N λr e=>r=my (J2 l p q)/\AD N e:=by
 have ay:=EL.length Cf o;have ao:=Ia;have ap:∀M,List.take 256 (Gr M)=Gr M:=λM=>FZ (by rw[Ia];exact AU _);have au:∀M,lsp (Pg 256 (.bool false)) 0 (Gr M)=Gr M:=λM=>I8 (by rw[Ia];simp[Pg]);have a3:Z (Pg 256 (.bool false))=256:=by simp[Pg]
 have av:∀M,(Gr M).all flat=true:=λM=>by simp[Gr,flat,Value.oneCell']
 refine Z9 49 [.tmp 6] Tryz.func166 ?_;refine m0 ?_;intro yb ya;refine Xi (UG l cs idl o U V _) ?_;rintro _ _ ⟨rfl,H⟩;refine mr ?_;rename_i c;have g:((c.new (Pg 256 (.bool false))).put c.B (Gr (aK l))).C c.B=Gr (aK l):=Ak;have d:AD N ((c.new (Pg 256 (.bool false))).put c.B (Gr (aK l))):=(H.new _).put H.B _;generalize (c.new (Pg 256 (.bool false))).put c.B (Gr (aK l))=E at g d
 refine Ae (λm s e=>∃i:Nat,m=Z l-i/\i<=Z l/\s 0=sl idl (Z l) cs/\s 1=str p/\s 2=str q/\s 7=ptr c.B 0/\s 8=ic i/\e=E/\ll l p q i) (Z l)
  ⟨0,AA,AA,rfl,rfl,rfl,rfl,rfl,rfl,λa h=>AA⟩ ?_
 rintro m s e ⟨i,rfl,hi,y,B,t,C,v,f,I⟩;replace f:=f.symm;subst f;by_cases z:i<Z l
 ·refine mr ?_
  refine Ae (λm s e=>∃k:Nat,m=Z l-k/\k<=Z l/\s 0=sl idl (Z l) cs/\s 1=str p/\s 2=str q/\s 7=ptr c.B 0/\s 8=ic i/\s 9=ic k/\e=E/\lk l p q i k) (Z l)
   ⟨0,AA,AA,by simp[upd,y],by simp[upd,B],by simp[upd,t],by simp[upd,C],by simp[upd,v],rfl,rfl,λb h=>AA⟩ ?_
  clear y B t C v;rintro m s e ⟨k,rfl,Y,y,B,t,C,v,h9,f,F⟩;replace f:=f.symm;subst f;by_cases u:k<Z l
  ·obtain⟨O,K,b1,r1,a0,ax⟩:=Cv o (AK z);obtain⟨Q,P,W,r2,X,aw⟩:=Cv o (AK u);have g1:=R4 (aK l) (i:=i) (k:=k) AA AA;have n:Kl l i=l[i].h.B:=by simp[Kl,z]
   have j:Kl l k=l[k].h.B:=by simp[Kl,u]
   have S:AC (Kl l i=l[i].h.B/\Kl l k=l[k].h.B):=⟨n,j⟩;clear n j
   repeat' first|refine Z1 ?_|refine Z8 λyb ya=>?_|refine Z4 ?_;clear ya yb|refine Z2 ?_ ?_<;>intro h aa<;>try exact Xp|refine Z3 ?_|exact Zt|apply ya.o;clear ya yb
   all_goals
    obtain⟨n,j⟩:=S.o
    first
    |exact⟨_,rfl,by rw[J2,D4 (k:=i) (a:=i) _ (by simp[z]) (D4 (k:=k) (a:=k) _ (by simp[u]) (by simp only[rZ,n,j, *,Bool.and_self]))]⟩
    |exact⟨Z l-(k+1),AA,k+1,rfl,AA,nk,λb D=>by
     by_cases J:b=k
     ·subst J;simp only[rZ,n,j, *,Bool.and_false,Bool.false_and,Bool.and_true]
     exact F b AA⟩
  have L:k=Z l:=AA;subst L;refine mr ?_
  exact⟨Z l-(i+1),AA,i+1,rfl,AA,nk,λa A=>by
   by_cases T:a=i
   ·subst T;exact F
   exact I a AA⟩
 have R:i=Z l:=AA;subst R;refine mr ?_;have G:J2 l p q=false:=by
  unfold J2;rw[EV];intro a A;rw[List.mem_range]at A;simp only[JE];rw[EV];intro b D;rw[List.mem_range]at D;simp[I a A b D]
 first
 |exact⟨_,rfl,by rw[G],d⟩
 |exact⟨_,rfl,by rw[G]⟩
def Bn (p:Nat->Bool)(n:Nat):Int:=match (List.range n).find? p with|some i=>(i:Int)|none=> -1
def Gq {p n i}(e:i<n)(c:p i=true)(d:∀a,a<i->p a=false):Bn p n=i:=by
 unfold Bn;have:(List.range n).find? p=some i:=by
  rw[List.find?_range_eq_some];exact⟨c,nn e,λa b=>by simp[d a b]⟩
 rw[this]
def Ci {p n}(b:∀a,a<n->p a=false):Bn p n= -1:=by
 unfold Bn;have:(List.range n).find? p=none:=by
  rw[KB];intro a c;simp[b a (nn c)]
 rw[this]
def zH (l:n0)(h:List UInt8)(a:AE):Bool:=a.nt&&(a.B==h||J2 l a.B h)
def Hd (l:n0)(i:Nat):Bool:=match l[i]? with|some x=>x.A.any (zH l x.h.B)|none=>false
def ma (l:n0)(i:Nat):Prop:=∀a,a<i->Hd l a=false
def OG (l:n0)(x:AB)(j:Nat):Prop:=(x.A.take j).any (zH l x.h.B)=false
def yI (l cs idl)(u:EL AJ l cs)(F:Z l<=16)(z:∀x∈l,x.fits)(N):ni 162 [sl idl (Z l) cs] N λr c=>r=ic (Bn (Hd l) (Z l))/\AD N c:=by
 have P:=EL.length Cf u;refine Z9 56 [.tmp 2] Tryz.func162 ?_;refine mr ?_
 refine Ae (λm s c=>∃i:Nat,m=Z l-i/\i<=Z l/\s 0=sl idl (Z l) cs/\s 3=ic i/\AD N c/\ma l i) (Z l)
  ⟨0,AA,AA,rfl,rfl,AD.refl _,λa h=>AA⟩ ?_
 rintro m s c ⟨i,rfl,O,t,q,b,f⟩;by_cases d:i<Z l
 ·obtain⟨E,B,U,K,g,A⟩:=Cv u (AK d);have v:=z l[i] (AR d);have o:AC (l[i]?=some l[i]):=AK d;generalize l[i]=x at g A v o;have S:=EL.length A7 g;have I:=v.1
  refine mr ?_
  refine Ae (λm s c=>∃j:Nat,m=Z x.A-j/\j<=Z x.A/\s 0=sl idl (Z l) cs/\s 3=ic i/\s 4=ic j/\AD N c/\OG l x j) (Z x.A)
   ⟨0,AA,AA,by simp[upd,t],by simp[upd,q],rfl,b,by simp[OG]⟩ ?_
  clear b t q;rintro m s c ⟨j,rfl,L,t,q,T,b,e⟩;by_cases y:j<Z x.A
  ·obtain⟨M,r,G⟩:=Ca g (AK y);have n:AC (x.A[j]?=some x.A[j]):=AK y;generalize x.A[j]=a at G n
   refine mr ?_;refine Ax Ag (λ_=>True) [24] [0,1,2,3,4,5,6,7,8,9,10,11,12,13,14,15,16,17,18,19,20,21] [22,23,24] AH (λ_ _ _ h=>h) ?_;intro yb ya;refine Z3 ?_
   repeat' first|refine Z1 ?_|refine Z8 λyb ya=>?_|refine Z4 ?_;clear ya yb|refine Z2 ?_ ?_<;>intro h Q<;>try exact Xp|refine Z5 ?_;refine Xi (Sy l cs idl _ _ u F z _) ?_;rintro _ _ ⟨rfl,k⟩;(have R:=k.B)|refine Z3 ?_|exact Zt|apply ya.o;clear ya yb
   all_goals
    first
    |exact⟨_,rfl,by rw[Gq (p:=Hd l) d (by unfold Hd;rw[o.o];exact D4 _ n.o (by simp[zH, *])) f],by first|exact ((b.new _).put b.B _).trans k|exact (b.new _).put b.B _⟩
    |exact⟨Z x.A-(j+1),AA,j+1,rfl,AA,nk,by first|exact ((b.new _).put b.B _).trans k|exact (b.new _).put b.B _,by unfold OG at*;rw[any_take_succ _ n.o,e];simp[zH, *]⟩
  have C:j=Z x.A:=AA;subst C;refine mr ?_;refine⟨Z l-(i+1),AA,i+1,rfl,AA,nk,?_⟩;intro a J;by_cases D:a=i
  ·subst D;unfold OG at e;rw[AS]at e;unfold Hd;rw[o.o];exact e
  exact f a AA
 have H:i=Z l:=AA;subst H;refine mr ?_
 first
 |exact⟨_,rfl,by rw[Ci f],b⟩
 |exact⟨_,rfl,by rw[Ci f]⟩
end Go.Proofs.YtmoeoppbmhfbpabGreatDoorJ
