import Derived.Test.YtmoeoppbmhfbpabGreatDoorA
set_option maxHeartbeats 16000000
set_option maxRecDepth 100000
set_option linter.all false
open List
open List renaming length->Z
namespace Go.Proofs.YtmoeoppbmhfbpabGreatDoorJ
open Go.Abs Tryz
def B6 (c:Int):Bool:=decide (97<=c)&&decide (c<=122)
def Bs (c:Int):Bool:=decide (65<=c)&&decide (c<=90)
def Gv (c:Int):Bool:=decide (49<=c)&&decide (c<=57)
def W0 (c N):ni 197 [sc (.int .u8 c)] N λx a=>x=my (B6 c)/\a=N:=by
 apply wl func197;refine m6 ?_ ?_<;>intro h b
 all_goals exact⟨_,rfl,by grind[B6]⟩
def Qg (c N):ni 195 [sc (.int .u8 c)] N λx a=>x=my (Bs c)/\a=N:=by
 apply wl func195;refine m6 ?_ ?_<;>intro h b
 all_goals exact⟨_,rfl,by grind[Bs]⟩
def xX (c N):ni 199 [sc (.int .u8 c)] N λx a=>x=my (Gv c)/\a=N:=by
 apply wl func199;refine m6 ?_ ?_<;>intro h b
 all_goals exact⟨_,rfl,by grind[Gv]⟩
structure BE where
 st:Int
 items:Int
 letters:Int
 digits:Int
 A:Int
 lits:Int
 h:Bool
def Kc (a:BE):oh:=[Y a.st,Y a.items,Y a.letters,Y a.digits,Y a.A,Y a.lits,my a.h]
def uN (o d a c N)(h:N.C o=a::c):ni 198 [ptr o 0,Y d] N λx b=>x=my true/\b=N.put o (Y d::c):=by
 apply wl func198;refine X ?_;grind
structure AQ (o:Nat)(N N':St):Prop where
 B:N.B<=N'.B
 C:∀p,p<N.B->p≠o->N'.C p=N.C p
 ver:∀p,p<N.B->p≠o->N'.ver p=N.ver p
 D:N.D<=N'.D
 top:∀k,k<N.D->N'.top k=N.top k
def AQ.refl (o N):AQ o N N:=⟨AU _,λ_ _ _=>rfl,λ_ _ _=>rfl,AU _,λ_ _=>rfl⟩
def AQ.put {o N c}(h:AQ o N c)(cs):AQ o N (c.put o cs):=
 ⟨h.B,λp b a=>by simp[St.put,a];exact h.C p b a,λp b a=>by simp[St.put,a];exact h.ver p b a,h.D,h.top⟩
def AQ.trans {o a b c}(h:AQ o a b)(k:AQ o b c):AQ o a c:=
 ⟨BI h.B k.B,λp d e=>(k.C p (BZ d h.B) e).trans (h.C p d e),λp d e=>(k.ver p (BZ d h.B) e).trans (h.ver p d e),
  BI h.D k.D,λj f=>(k.top j (BZ f h.D)).trans (h.top j f)⟩
def AQ.keep {o a b c}(h:W a b)(k:AQ o b c)(f:a.B<=o):W a c:=
 ⟨BI h.B k.B,λp d=>(k.C p (BZ d h.B) L).trans (h.C p d),λp d=>(k.ver p (BZ d h.B) L).trans (h.ver p d),
  BI h.D k.D,λj e=>(k.top j (BZ e h.D)).trans (h.top j e)⟩
def D7 (a:BE)(c:Int):BE×Bool:=
 if (a.st==5)=true then
  if B6 c/\decide (a.letters<6)=true then ({a with letters:=a.letters+1},true)
  else if (c==40)=true then ({a with A:=0,st:=6},true)else ({a with A:=0},false)
 else if (a.st==6)=true then
  if Gv c=true then ({a with A:=a.A+1,digits:=1,st:=7},true)
  else if Bs c\/(c==48)=true then ({a with A:=a.A+1,digits:=1,st:=8},true)else ({a with A:=a.A+1,digits:=1},false)
 else if (a.st==7)/\decide (a.digits<3)/\(Gv c\/(c==48))then ({a with digits:=a.digits+1},true)
 else if (c==41)=true then ({a with lits:=if (!a.h)=true then a.lits+1 else a.lits,st:=9},true)
 else if (c==44)/\decide (a.A<3)=true then ({a with st:=6},true)else (a,false)
def C2 (a:BE)(c:Int):BE×Bool:=
 if (a.st==0)=true then
  if (a.items==16)=true then (a,false)
  else if (c==63)=true then ({a with h:=true,letters:=0,lits:=0,st:=1},true)
  else if B6 c=true then ({a with h:=true,letters:=1,lits:=0,st:=5},true)else ({a with h:=true,letters:=1,lits:=0},false)
 else if (a.st==1)\/(a.st==2)=true then
  if B6 c/\decide (a.letters<6)=true then ({a with letters:=a.letters+1,st:=2},true)
  else if (c==46)/\(a.st==2)=true then ({a with items:=a.items+1,st:=0},true)else (a,false)
 else if (a.st==3)\/(a.st==4)=true then
  if (c==33)/\(a.st==3)=true then ({a with letters:=1,st:=4},true)
  else if B6 c=true then ({a with letters:=1,st:=5},true)else ({a with letters:=1},false)
 else if (a.st==10)=true then
  if (c==45)=true then ({a with h:=false,st:=3},true)else ({a with h:=false},false)
 else if (c==46)=true then ({a with items:=a.items+1,st:=0},true)
 else if (c==58)/\a.h=true then ({a with st:=10},true)
 else if (c==44)/\(!a.h)/\decide (a.lits<5)=true then ({a with st:=3},true)else (a,false)
def BE.small (a:BE):Prop:=a.items<=100000/\a.letters<=100000/\a.digits<=100000/\a.A<=100000/\a.lits<=100000/\0<=a.items/\0<=a.letters/\0<=a.digits/\0<=a.A/\0<=a.lits
def rX (o z)(k:z.small)(c N)(h:N.C o=Kc z):
  ni 159 [ptr o 0,sc (.int .u8 c)] N λx f=>x=my ((D7 z c).2)/\f.C o=Kc (D7 z c).1/\AQ o N f:=by
 let⟨q,A,y,n,s,v,t,m,p,j⟩:=k;let⟨l,e,a,b,d,i,g⟩:=z;rw[Kc]at*
 simp only at*
 apply wl func159
 repeat' first|refine Z1 ?_|refine Z8 λyb ya=>?_|refine Z4 ?_;clear ya yb|refine Z2 ?_ ?_<;>intro h u<;>try exact Xp|(refine Z5 ?_;first|(apply Xi (W0 _ _);rintro _ _ ⟨rfl,rfl⟩)|(apply Xi (xX _ _);rintro _ _ ⟨rfl,rfl⟩)|(apply Xi (Qg _ _);rintro _ _ ⟨rfl,rfl⟩)|(refine Xi (uN _ _ _ _ _ (by first|assumption|(simp only[Ak];rfl))) ?_;rintro _ _ ⟨rfl,rfl⟩))|refine Z3 ?_|exact Zt|apply ya.o;clear ya yb
 all_goals exact⟨_,rfl,by simp only[D7, *,↓reduceIte,EI,and_self,or_self,GM,and_true,true_or,or_true,false_or,DZ,and_false,false_and,reduceCtorEq,if_true,if_false,NJ,NK,IY,JX],by simp only[D7, *,↓reduceIte,EI,and_self,or_self,GM,and_true,true_or,or_true,false_or,DZ,and_false,false_and,reduceCtorEq,if_true,if_false,NJ,NK,IY,JX],by repeat (first|exact AQ.refl _ _|apply AQ.put)⟩
def rD (o z)(k:z.small)(c N)(h:N.C o=Kc z):
  ni 160 [ptr o 0,sc (.int .u8 c)] N λx f=>x=my ((C2 z c).2)/\f.C o=Kc (C2 z c).1/\AQ o N f:=by
 let⟨q,A,y,n,s,v,t,m,p,j⟩:=k;let⟨l,e,a,b,d,i,g⟩:=z;rw[Kc]at*
 simp only at*
 apply wl func160
 repeat' first|refine Z1 ?_|refine Z8 λyb ya=>?_|refine Z4 ?_;clear ya yb|refine Z2 ?_ ?_<;>intro h u<;>try exact Xp|(refine Z5 ?_;first|(apply Xi (W0 _ _);rintro _ _ ⟨rfl,rfl⟩)|(refine Xi (uN _ _ _ _ _ (by first|assumption|(simp only[Ak];rfl))) ?_;rintro _ _ ⟨rfl,rfl⟩))|refine Z3 ?_|exact Zt|apply ya.o;clear ya yb
 all_goals exact⟨_,rfl,by simp only[C2, *,↓reduceIte,EI,and_self,or_self,GM,and_true,true_or,or_true,false_or,DZ,and_false,false_and,reduceCtorEq,if_true,if_false,NJ,NK,IY,JX],by simp only[C2, *,↓reduceIte,EI,and_self,or_self,GM,and_true,true_or,or_true,false_or,DZ,and_false,false_and,reduceCtorEq,if_true,if_false,NJ,NK,IY,JX],by repeat (first|exact AQ.refl _ _|apply AQ.put)⟩
def B7 (l:List UInt8)(c:Int):Nat:=l.findIdx λx=>(x.toNat:Int)==c
def R1 (l c):B7 l c<=Z l:=findIdx_le_length
def yR (l c k)(e:k<Z l)(b:∀(j:Nat),j<k->∀(x:UInt8),l[j]?=some x->((x.toNat:Int)==c)=false)(a:((l[k].toNat:Int)==c)):B7 l c=k:=by rw[B7];rw[findIdx_eq e];exact⟨a,λj d=>b j d _ (AK _)⟩
theorem Yx (l c)(a:∀(j:Nat),j<Z l->∀(x:UInt8),l[j]?=some x->((x.toNat:Int)==c)=false):B7 l c=Z l:=by rw[B7];rw[findIdx_eq_length];intro x d;let⟨j,e,b⟩:=mem_iff_getElem.1 d;exact a j e x (b▸AK _)
def Ld (l c)(q:Z l<=100000)(N):ni 61 [O l,sc (.int .u8 c)] N λx b=>x=Y (B7 l c)/\b=N:=by
 apply wl func61;refine X ?_
 refine wn [0,1] 5 (Z l) (λk s b=>b=N/\
  ∀(j:Nat),j<k->∀(x:UInt8),l[j]?=some x->((x.toNat:Int)==c)=false) ⟨rfl,λj h=>L⟩ ?_
 rintro k s b _ _ _ ⟨rfl,a⟩;by_cases e:k<Z l;have f:=AK e;refine m6 ?_ ?_<;>intro h t;exact⟨_,rfl,by rw[yR l c k e a nu]⟩;refine λj p x d=>?_;by_cases g:j=k;subst g;rw[f]at d;cases d;assumption;exact a j L x d;have i:k=Z l:=L;refine X ?_;exact⟨_,rfl,by grind[Yx]⟩
def Cd (c:Int):List UInt8->Bool->List UInt8->List (List UInt8)
 |[],_,a=>if a=[]then []else [a]
 |b::g,d,a=>
  let f:=if ((b.toNat:Int)==40)=true then true else d
  let e:=if ((b.toNat:Int)==41)=true then false else f
  if ((b.toNat:Int)==c)/\e=false then a::Cd c g e []else Cd c g e (a++[b])
def Ix (s:List UInt8)(c:Int):List (List UInt8):=Cd c s false []
def Kn (c):∀(s:List UInt8) (d:Bool) (a:List UInt8),Z (Cd c s d a)<=Z s+1
 |[],d,a=>by grind[Cd]
 |b::f,d,a=>by
  unfold Cd
  all_goals
   simp only[];generalize (if ((b.toNat:Int)==41)=true then false else _)=e;split
   ·have:=Kn c f e [];simp;omega
   have:=Kn c f e (a++[b]);simp;omega
def eW {s:List UInt8}{k}(h:k<Z s):s.drop k=s[k]::s.drop (k+1):=ET h
def wX {s:List UInt8}{f k}(a:f<=k)(h:k<Z s):(s.drop f).take (k+1-f)=(s.drop f).take (k-f)++[s[k]]:=by rw[show k+1-f=(k-f)+1 by omega,AT,IJ,show f+(k-f)=k by omega,AK h];rfl
def Sd (l c)(M:Z l<=100000)(N):ni 99 [O l,sc (.int .u8 c)] N λx i=>∃id,x=lw id (Ix l c)/\W N i:=by
 refine wl func99 ?_;refine X ?_
 refine Ae (λm s i=>∃(k f id:Nat) (d:Bool) (b:List (List UInt8)),m=Z l-k/\k<=Z l/\f<=k/\s 0=O l/\s 1=sc (.int .u8 c)/\s 5=lw id b/\s 6=my d/\s 7=Y f/\s 8=Y k/\
  W N i/\J N i id (Z b)/\Z b<=k/\V (Ix l c=b++Cd c (l.drop k) d ((l.drop f).take (k-f)))) (Z l) ⟨0,0,1,false,[],L,L,L,rfl,rfl,rfl,rfl,rfl,rfl,W.refl _,J.nil _ _,nk,rfl⟩ ?_
 rintro m s i ⟨k,f,id,d,b,rfl,G,A,S,Q,F,K,I,R,B,z,P,n⟩;by_cases j:k<Z l
 ·have T:=AK j
  repeat' first|refine Z1 ?_|refine Z8 λyb ya=>?_|refine Z4 ?_;clear ya yb|refine Z2 ?_ ?_<;>intro h E<;>try exact Xp|refine Z6 ?_;intro g t o p v D y C|refine Z3 ?_|exact Zt|apply ya.o;clear ya yb
  all_goals first
   |(refine⟨Z l-(k+1),L,k+1,k+1,g,_,b++[(l.drop f).take (k-f)],rfl,L,L,nk,rfl,nk,nk,nn o,by simp;omega,?_⟩
     have a:=n.o;rw[eW j]at a;simp only[Cd, *,↓reduceIte,and_self,EI]at a;rw[V,a]
     try simp;done)
   |(refine⟨Z l-(k+1),L,k+1,f,id,_,b,rfl,L,L,rfl,rfl,rfl,nk,z,L,?_⟩
     have a:=n.o;rw[eW j]at a;simp only[Cd, *,↓reduceIte,and_self,and_false,false_and,reduceCtorEq,EI]at a;rw[V,a,wX A j]
     try rfl)
 have a:=n.o;obtain rfl:k=Z l:=L;simp only[IZ,Cd]at a;have u:(l.drop f).take (Z l-f)=l.drop f:=FZ nk;rw[u]at a;have q:=(show V _ from a);clear a n u
 repeat' first|refine Z1 ?_|refine Z8 λyb ya=>?_|refine Z4 ?_;clear ya yb|refine Z2 ?_ ?_<;>intro h E<;>try exact Xp|refine Z6 ?_;intro g t o p v D y C|refine Z3 ?_|exact Zt|apply ya.o;clear ya yb
 ·refine⟨_,rfl,g,?_⟩
  have a:=q.o;rw[if_neg (by intro e;have:=congrArg length e;simp at this;omega)]at a;rw[a];simp
  try rw[FZ nk]
 refine⟨_,rfl,id,?_⟩
 have a:=q.o;rw[if_pos (by apply GG;simp;omega)]at a;rw[a];simp
structure AE where
 nt:Bool
 B:List UInt8
 A:List (List UInt8)
abbrev oq:=List AE
structure AB where
 o:Bool
 h:AE
 A:oq
abbrev ko (x:AB)(i j c):=[my x.o,my x.h.nt,O x.h.B,lw i x.h.A,sl j (Z x.A) c]
abbrev n0:=List AB
def Bf (a:AE)(c:oh):Prop:=∃id,c=[my a.nt,O a.B,lw id a.A]
def A7 (a c)(h:Bf a c):Z c=3:=by obtain⟨id,rfl⟩:=h;rfl
def AJ (x:AB)(c:oh):Prop:=∃h id b,Bf x.h h/\r Bf x.A b/\c=my x.o::h++[sl id (Z x.A) b]
def Cf (x c)(h:AJ x c):Z c=5:=by obtain⟨h,id,b,⟨i,rfl⟩,-,rfl⟩:=h;rfl
def Pr:List UInt8->Bool
 |[]=>false
 |b::_=>(b.toNat:Int)==33
def Jd (s:List UInt8):List UInt8:=if Pr s then (s.drop 1).take (Z s-1)else s
def Ps (a:Bool)(s:List UInt8):AE:=
 {nt:=a,B:=(s.drop 0).take (B7 s 40-0),A:=if B7 s 40+1<Z s then Ix ((s.drop (B7 s 40+1)).take (Z s-1-(B7 s 40+1))) 44 else []}
def D3 (s:List UInt8):AE:=Ps (Pr s) (Jd s)
def Tu (l)(o:Z l<=10000)(N):ni 106 [O l] N λx k=>∃c,x=ag c/\Bf (D3 l) c/\W N k:=by
 apply wl func106;have g:∀(m:List UInt8),((B7 m 40:Nat):Int)<=(Z m:Int):=λm=>ny (R1 m 40)
 cases l with
 |nil=>
  have n:(([]:List UInt8)==[]):=rfl;have i:=g [];simp only[CQ]at i g;refine m0 ?_;intro yb ya;(refine Xi (Ld _ _ nk _) ?_;rintro _ _ ⟨rfl,rfl⟩);refine X ?_;exact⟨_,rfl,_,rfl,⟨1,by simp[D3,Ps,Pr,Jd]⟩,Xs⟩
 |cons b q=>
  have n:(b::q==([]:List UInt8))=false:=rfl;simp only[BQ]at o;have i:=R1 q 40;have j:=R1 (b::q) 40;simp only[BQ]at j
  repeat' first|refine Z1 ?_|refine Z8 λyb ya=>?_|refine Z4 ?_;clear ya yb|refine Z2 ?_ ?_<;>intro h p<;>try exact Xp|(refine Z5 ?_;first|(refine Xi (Ld _ _ (gp) _) ?_;rintro _ _ ⟨rfl,rfl⟩)|(refine Xi (Sd _ _ (gp) _) ?_;rintro _ _ ⟨a,rfl,e⟩;(have f:=e.C)))|refine Z3 ?_|exact Zt|apply ya.o;clear ya yb
  ·have d:B7 q 40+1<Z q:=L;exact⟨_,rfl,_,rfl,⟨a,by grind[D3,Ps,Pr,Jd]⟩,Xs⟩
  ·have d:¬B7 q 40+1<Z q:=L;exact⟨_,rfl,_,rfl,⟨1,by grind[D3,Ps,Pr,Jd]⟩,Xs⟩
  ·have d:B7 (b::q) 40<Z q:=L;exact⟨_,rfl,_,rfl,⟨a,by grind[D3,Ps,Pr,Jd]⟩,Xs⟩
  have d:¬B7 (b::q) 40<Z q:=L;exact⟨_,rfl,_,rfl,⟨1,by grind[D3,Ps,Pr,Jd]⟩,Xs⟩
def any_take_succ {α:Type}{l:List α}{k a}(p)(h:l[k]?=some a):(l.take (k+1)).any p=((l.take k).any p||p a):=by simp_all[AT]
def D4 {α:Type}{l:List α}{k:Nat}{a}(p)(h:l[k]?=some a)(b:p a):l.any p:=
 CU.2 ⟨a,AY h,b⟩
def Ab:List UInt8->Bool
 |[]=>false
 |b::_=>Bs b.toNat
def Cg (l N):ni 152 [O l] N λx c=>x=my (Ab l)/\c=N:=by
 apply wl func152;cases l with
 |nil=>
  have a:(([]:List UInt8)==[]):=rfl;refine X ?_
  all_goals exact⟨_,rfl,by simp[Ab]⟩
 |cons b d=>
  have a:(b::d==([]:List UInt8))=false:=rfl;apply mt (Qg _);rintro yb ya _ _ ⟨rfl,rfl⟩;refine X ?_
  all_goals exact⟨_,rfl,by simp[Ab]⟩
def Af (x:AB):oq:=(if x.o=true then []else [x.h])++x.A
abbrev A4 (x:AB)(ih id:Nat)(b:oh):oh:=(ko x ih id b)
def AJ.cells {x c}(h:AJ x c):∃ih id b,r Bf x.A b/\c=A4 x ih id b:=by obtain⟨h,id,b,⟨i,rfl⟩,a,rfl⟩:=h;exact⟨i,id,b,a,rfl⟩
def AJ.of {x ih id b}(h:r Bf x.A b):AJ x (A4 x ih id b):=⟨_,id,b,⟨ih,rfl⟩,h,rfl⟩
def Ca {l cs i a}(h:r Bf l cs)(d:l[i]?=some a):∃b f,cs.drop (i*3)=my a.nt::O a.B::lw b a.A::f:=by obtain⟨c,f,⟨b,rfl⟩,e⟩:=r.get A7 h d;exact⟨b,f,e⟩
def Yp (x p c)(i:AJ x c)(z:Z x.A<=100000)(N):ni 203 [ag c,O p] N λl d=>l=my (x.A.any λa=>a.B==p)/\W N d:=by
 obtain⟨j,id,b,g,rfl⟩:=i.cells;have t:=r.length A7 g;refine wl func203 ?_;refine X ?_
 refine Ae (λm s d=>∃k:Nat,m=Z x.A-k/\k<=Z x.A/\s 2=ptr N.B 0/\s 1=O p/\s 5=Y k/\d=N.new (A4 x j id b)/\V ((x.A.take k).any (λa=>a.B==p)=false)) (Z x.A)
  ⟨0,L,L,rfl,rfl,rfl,rfl,by simp[V]⟩ ?_
 rintro m s d ⟨k,rfl,u,v,A,n,rfl,e⟩;by_cases f:k<Z x.A;let⟨o,l,q⟩:=Ca g (AK f);refine m6 ?_ ?_<;>intro h y;exact⟨_,rfl,by rw[D4 _ (AK f) nu],Xs⟩;exact⟨Z x.A-(k+1),L,k+1,rfl,L,nk,by rw[V,any_take_succ _ (AK f),e.o];simpa using h⟩;obtain rfl:k=Z x.A:=L;rw[AS]at e;refine X ?_;exact⟨_,rfl,by rw[e.o],Xs⟩
def P8 (x:AB):oq:=if x.o=true then []else [x.h]
def oN (x:AB)(ih id:Nat)(b:oh)(N:St)(m:Nat)(s:Sl)(c:St):Prop:=
 ∃(k a:Nat) (d:oh),m=Z x.A-k/\k<=Z x.A/\s 1=ptr N.B 0/\s 3=sl a (Z (P8 x)+k) d/\s 4=Y k/\W N c/\J N c a (Z (P8 x)+k)/\
  c.C N.B=A4 x ih id b/\N.B<c.B/\V (r Bf (P8 x++x.A.take k) d)
def Qq (x c)(F:AJ x c)(T:Z x.A<=100000)(N):ni 114 [ag c] N λy i=>∃id cs,y=sl id (Z (Af x)) cs/\r Bf (Af x) cs/\W N i:=by
 obtain⟨z,id,b,v,rfl⟩:=F.cells;have M:=r.length A7 v;have S:Z (P8 x)<=1:=by unfold P8;split<;>simp
 refine wl func114 ?_;refine m6 ?_ ?_<;>intro h P;refine Ae (oN x z id b N) (Z x.A) ⟨0,_,_,L,L,rfl,by unfold P8;rw[if_neg (nn h)];rfl,rfl,Xs,?_,by simp[St.new,St.lay],by simp[St.new,St.lay],?_⟩ ?_;unfold P8;rw[if_neg (nn h)];exact J.made (Xs) nr;unfold P8;rw[if_neg (nn h)];exact r.single ⟨_,rfl⟩;rintro m s i ⟨k,a,g,rfl,o,p,E,R,q,D,t,B,d⟩;have n:=r.length A7 d.o;simp only[AX,CN,ER o]at n;by_cases f:k<Z x.A;let⟨Q,y,I⟩:=Ca v (AK f);refine m5 ?_;intro yb ya;intro e A j l u G C K;refine X ?_;refine⟨Z x.A-(k+1),L,k+1,e,_,rfl,L,by simp[upd,p],rfl,AG,l,by simpa[ID]using j,by rw[u];exact t,L,?_⟩;rw[V,AT,AK f,<-CR];exact d.o.append (r.single ⟨_,rfl⟩);obtain rfl:k=Z x.A:=L;rw[AS]at d;refine X ?_
 exact⟨_,rfl,a,g,by simp[Af,P8],d.o⟩
 refine Ae (oN x z id b N) (Z x.A) ⟨0,_,_,L,L,rfl,by unfold P8;rw[if_pos (nn h)];rfl,rfl,Xs,?_,by simp[St.new,St.lay],by simp[St.new,St.lay],?_⟩ ?_;unfold P8;rw[if_pos (nn h)];exact J.nil _ _;unfold P8;rw[if_pos (nn h)];rfl;rintro m s i ⟨k,a,g,rfl,o,p,E,R,q,D,t,B,d⟩;have n:=r.length A7 d.o;simp only[AX,CN,ER o]at n;by_cases f:k<Z x.A;let⟨Q,y,I⟩:=Ca v (AK f);refine m5 ?_;intro yb ya;intro e A j l u G C K;refine X ?_;refine⟨Z x.A-(k+1),L,k+1,e,_,rfl,L,by simp[upd,p],rfl,AG,l,by simpa[ID]using j,by rw[u];exact t,L,?_⟩;rw[V,AT,AK f,<-CR];exact d.o.append (r.single ⟨_,rfl⟩);obtain rfl:k=Z x.A:=L;rw[AS]at d;refine X ?_
 exact⟨_,rfl,a,g,by simp[Af,P8],d.o⟩
def OO (a:AE)(t:List UInt8)(k:Nat):Prop:=(a.A.take k).any (λu=>!a.nt&&u==t)=false
def OE (x:AB)(t:List UInt8)(j:Nat):Prop:=(x.A.take j).any (λa=>a.A.any λu=>!a.nt&&u==t)=false
def Ma (x:AB)(t:List UInt8):Bool:=x.A.any λa=>a.A.any λu=>!a.nt&&u==t
theorem A1 {l k}(h:k<Z l):(l.map O).drop k=O l[k]::(l.map O).drop (k+1):=by simp_all[ET]
def sP (x t c)(B:AJ x c)(Q:Z x.A<=100000)(C:∀a∈x.A,Z a.A<=100000)(N):ni 168 [ag c,O t] N λg d=>g=my (Ma x t)/\W N d:=by
 obtain⟨o,id,b,u,rfl⟩:=B.cells;have q:=r.length A7 u;refine wl func168 ?_;refine X ?_
 refine wn [2,1] 5 (Z x.A) (λj s d=>d=N.new (A4 x o id b)/\OE x t j) ⟨rfl,by simp[OE]⟩ ?_
 rintro j s d _ ⟨z,A⟩ v ⟨rfl,e⟩;by_cases f:j<Z x.A
 ·let⟨M,g,D⟩:=Ca u (AK f);have n:=AK f;have y:=C x.A[j] (AR f);generalize x.A[j]=a at D n y;have p:V (x.A[j]?=some a):=n;clear n
  refine X ?_
  refine wn [2,1,5] 6 (Z a.A) (λk s d=>d=N.new (A4 x o id b)/\OO a t k) ⟨rfl,by simp[OO]⟩ ?_
  rintro k P E _ _ _ ⟨rfl,i⟩;by_cases l:k<Z a.A
  ·have m:=A1 l
   repeat' first|refine Z1 ?_|refine Z8 λyb ya=>?_|refine Z4 ?_;clear ya yb|refine Z2 ?_ ?_<;>intro h R<;>try exact Xp|refine Z3 ?_|exact Zt|apply ya.o;clear ya yb
   ·exact⟨_,rfl,by rw[Ma,D4 _ p.o (D4 _ (AK l) (by simp[*]))],Xs⟩
   all_goals exact by rw[OO]at*;rw[any_take_succ _ (AK l),i];simp[*]
  obtain rfl:k=Z a.A:=L;refine X ?_;skip;rw[OE,OO]at*
  rw[AS]at i;rw[any_take_succ _ p.o,e,i];rfl
 obtain rfl:j=Z x.A:=L;refine X ?_;rw[OE]at e;rw[AS]at e;exact⟨_,rfl,by rw[Ma,e],Xs⟩
def bC (x:AB)(t:List UInt8):Bool:=Ab t&&!Ma x t
def zI (x:AB)(a:AE):Bool:=a.A.any (bC x)
def Db (x:AB):Bool:=!(Af x).any (zI x)
def NX (x:AB)(a:AE)(k:Nat):Prop:=(a.A.take k).any (bC x)=false
def OM (x:AB)(j:Nat):Prop:=((Af x).take j).any (zI x)=false
def AB.fits (x:AB):Prop:=Z x.A<=1000/\Z x.h.A<=1000/\∀a∈x.A,Z a.A<=1000
def dJ (x c)(I:AJ x c)(M:x.fits)(N):ni 113 [ag c] N λA e=>A=my (Db x)/\W N e:=by
 have G:=I;obtain⟨y,id,b,hb,rfl⟩:=I.cells;let⟨f1,U,m⟩:=M;have P:∀a∈x.A,Z a.A<=100000:=λa d=>ny (m a d)
 have a0:Z (Af x)<=1001:=by unfold Af;split<;>simp<;>omega
 have S:∀a∈Af x,Z a.A<=1000:=by
  intro a d;unfold Af at d;rw[AW]at d;obtain d|d:=d
  ·split at d
   ·cases d
   simp at d;subst d;exact U
  exact m a d
 refine wl func113 ?_;refine mt (Qq _ _ G L) ?_;rintro yb ya _ _ ⟨a6,a1,rfl,K,i⟩;have v:=i.C _ (by rw[Aa];exact Nat.lt_succ_self _);rw[Ao]at v;have f:=i.B;rw[Aa]at f;refine X ?_;have az:=r.length A7 K;rename_i Q;have u:W N Q:=((W.refl N).new _).trans i
 refine wn [1,3] 4 (Z (Af x)) (λj s e=>W N e/\e.C N.B=A4 x y id b/\N.B<e.B/\OM x j) ⟨u,v,L,by simp[OM]⟩ ?_
 rintro j s e _ ⟨a4,a2⟩ a3 ⟨E,D,z,g⟩;clear i u v f;by_cases q:j<Z (Af x)
 ·let⟨ia,A,R⟩:=Ca K (AK q);have o:=AK q;have C:=S (Af x)[j] (AR q);generalize (Af x)[j]=a at R o C;have B:V ((Af x)[j]?=some a):=o;clear o
  refine X ?_
  refine wn [1,3,4] 5 (Z a.A) (λk s e=>W N e/\e.C N.B=A4 x y id b/\N.B<e.B/\NX x a k) ⟨E,D,z,by simp[NX]⟩ ?_
  rintro k s2 N2 _ _ _ ⟨T,ay,p,l⟩;clear E D z;by_cases F:k<Z a.A
  ·have ax:=A1 F
   repeat' first|refine Z1 ?_|refine Z8 λyb ya=>?_|refine Z4 ?_;clear ya yb|refine Z2 ?_ ?_<;>intro h ab<;>try exact Xp|(refine Z5 ?_;first|(refine Xi (Cg _ _) ?_;rintro _ _ ⟨rfl,rfl⟩)|(refine Xi (sP _ _ _ G L P _) ?_;rintro _ _ ⟨rfl,n⟩;(have kb:=n.C _ p;have a5:=n.B)))|refine Z3 ?_|exact Zt|apply ya.o;clear ya yb
   all_goals
    have t:=AK F
    first
    |exact⟨_,rfl,by rw[Db,D4 _ B.o (D4 (bC x) t (by simp[bC, *]))];rfl,Xs⟩
    |exact⟨T.trans n,L,by unfold NX at*;rw[any_take_succ _ t,l];simp[bC, *]⟩
    |exact by unfold NX at*;rw[any_take_succ _ t,l];simp[bC, *]
  obtain rfl:k=Z a.A:=L;refine X ?_;skip;unfold OM NX at*
  rw[AS]at l;rw[any_take_succ _ B.o,g,zI,l];rfl
 obtain rfl:j=Z (Af x):=L;refine X ?_;unfold OM at g;rw[AS]at g
 first
 |exact⟨_,rfl,by rw[Db,g];rfl,Xs⟩
 |exact⟨_,rfl,by rw[Db,g];rfl⟩
def J6:BE:=⟨0,0,0,0,0,0,false⟩
def A9 (a:BE)(c:UInt8):BE×Bool:=
 if decide (5<=a.st)/\decide (a.st<=8)=true then D7 a c.toNat else C2 a c.toNat
def M8:BE->List UInt8->Nat->BE×Option Nat
 |a,[],_=>(a,none)
 |a,c::b,i=>if (A9 a c).2=true then M8 (A9 a c).1 b (i+1)else ((A9 a c).1,some i)
def Eo (s:List UInt8):Int:=
 match (M8 J6 s 0).2 with
 |some i=>i
 |none=>if (M8 J6 s 0).1.st !=0 then Z s else -1
def BE.upto (a:BE)(k:Nat):Prop:=a.items<=k/\a.letters<=k+1/\a.digits<=k+1/\a.A<=k+1/\a.lits<=k+1/\0<=a.items/\0<=a.letters/\0<=a.digits/\0<=a.A/\0<=a.lits
def bK {n k}(h:n.upto k)(c):(A9 n c).1.upto (k+1):=by
 let⟨l,f,i,m,a,g,b,d,e,j⟩:=h;rw[A9,D7,C2,BE.upto]
 repeat' split
 all_goals (simp only[];((repeat' first|constructor|split<;>omega|omega)))
def pU {n:BE}{k}(h:n.upto k)(g:k<=10000):n.small:=by let⟨l,i,j,m,f,d,a,b,c,e⟩:=h;exact⟨L,L,L,L,L,d,a,b,c,e⟩
def iG (l:List UInt8)(k:Nat)(a:BE):Prop:=M8 J6 l 0=M8 a (l.drop k) k
def Oe {l k a}(h:k<Z l):M8 a (l.drop k) k=if (A9 a l[k]).2=true then M8 (A9 a l[k]).1 (l.drop (k+1)) (k+1)else ((A9 a l[k]).1,some k):=by rw[ET h];rfl
def X4 (l)(B:Z l<=1000)(N):ni 104 [O l] N λx d=>x=Y (Eo l)/\W N d:=by
 refine wl func104 ?_;refine X ?_
 refine wn [0,3] 4 (Z l) (λk s d=>∃m:BE,W N d/\d.C N.B=Kc m/\N.B<d.B/\m.upto k/\iG l k m) ⟨J6,Xs,by simp[St.new];rfl,by simp[St.new],by simp[BE.upto,J6],rfl⟩ ?_
 rintro k s d _ _ _ ⟨m,e,o,C,j,g⟩;have p:=pU j L;have n:=o;unfold Kc at o;by_cases f:k<Z l
 ·have v:=AK f
  repeat' first|refine Z1 ?_|refine Z8 λyb ya=>?_|refine Z4 ?_;clear ya yb|refine Z2 ?_ ?_<;>intro h u<;>try exact Xp|(refine Z5 ?_;first|(refine Xi (rX _ m p _ _ n) ?_;rintro _ _ ⟨rfl,q,b⟩;(have i:=b.B))|(refine Xi (rD _ m p _ _ n) ?_;rintro _ _ ⟨rfl,q,b⟩;(have i:=b.B)))|refine Z3 ?_|exact Zt|apply ya.o;clear ya yb
  all_goals
   first
   |(have a:A9 m l[k]=D7 m l[k].toNat:=by simp[A9, *]
     first
     |exact⟨_,rfl,by rw[Eo,show M8 J6 l 0=_ from g,Oe f,a,h];rfl,AQ.keep e b (AU _)⟩
     |exact⟨_,AQ.keep e b (AU _),rfl,L,by rw[<-a];exact bK j _,by rw[iG,show M8 J6 l 0=_ from g,Oe f,a,h];rfl⟩)
   |(have a:A9 m l[k]=C2 m l[k].toNat:=by simp only[A9, *,EI,false_and,and_false,↓reduceIte]
     first
     |exact⟨_,rfl,by rw[Eo,show M8 J6 l 0=_ from g,Oe f,a,h];rfl,AQ.keep e b (AU _)⟩
     |exact⟨_,AQ.keep e b (AU _),rfl,L,by rw[<-a];exact bK j _,by rw[iG,show M8 J6 l 0=_ from g,Oe f,a,h];rfl⟩)
 obtain rfl:k=Z l:=L;have c:M8 J6 l 0=(m,none):=by rw[show M8 J6 l 0=_ from g,IZ];rfl
 have t:V _:=c;clear c;refine m6 ?_ ?_<;>intro h u
 all_goals
  have c:=t.o
  first
  |exact⟨_,rfl,by simp[Eo,c, *],e⟩
  |exact⟨_,rfl,by simp[Eo,c, *]⟩
  |exact⟨_,rfl,by simp[Eo,c];simpa using h⟩
def Gr (M:Nat->Nat->Bool):oh:=(range 256).map λn=>my (M (n / 16) (n % 16))
def set2 (M:Nat->Nat->Bool)(i k:Nat)(v:Bool):Nat->Nat->Bool:=λa b=>if a=i/\b=k then v else M a b
theorem Ia (M):Z (Gr M)=256:=by simp[Gr]
def R4 (M){i k}(e:i<16)(d:k<16):(Gr M)[i*16+k]?=some (my (M i k)):=by grind[Gr]
def Y2 (M){i k}(f:i<16)(e:k<16)(v):(Gr M).set (i*16+k) (my v)=Gr (set2 M i k v):=by apply FL;intro n;rw[GH];by_cases a:n<256;by_cases b:i*16+k=n;subst b;have c:(i*16+k) / 16=i:=L;have d:(i*16+k) % 16=k:=L;simp[Gr,a,c,d,set2];have:¬(n / 16=i/\n % 16=k):=L;simp[Gr,a,b,set2,this];have:i*16+k≠n:=L;simp[Gr,a,this]
def eS:Pg 256 (.bool false)=Gr λ_ _=>false:=by apply FL;intro n;by_cases a:n<256;simp only[Gr,Pg,cst1,getElem?_replicate,DC,getElem?_range a,GJ,a,if_true];simp only[Pg,getElem?_replicate,if_neg a];rw[FD (by grind[Ia])]
def Cv {l cs i x}(h:r AJ l cs)(f:l[i]?=some x):∃ih id b g,r Bf x.A b/\cs.drop (i*5)=my x.o::my x.h.nt::O x.h.B::lw ih x.h.A::sl id (Z x.A) b::g:=by let⟨c,g,a,e⟩:=r.get Cf h f;obtain⟨ih,id,b,d,rfl⟩:=a.cells;exact⟨ih,id,b,g,d,e⟩
def Ny (l:n0)(i k:Nat):Bool:=
 match l[i]?,l[k]? with
 |some x,some y=>!y.o&&x.A.any λa=>a.B==y.h.B
 |_,_=>false
def Uc (l:n0)(i k:Nat)(M:Nat->Nat->Bool):Prop:=∀a b,M a b=if (a<i/\b<Z l)\/(a=i/\b<k)then Ny l a b else false
def I8 {l xs}(h:Z xs=Z l):lsp l 0 xs=xs:=by simp_all[Hw,DY,IZ]
def fw (M:Nat->Nat->Bool)(m:Nat):Nat->Nat->Bool:=λi k=>M i k||(M i m&&M m k)
def NV (n:Nat)(M:Nat->Nat->Bool)(m:Nat):Nat->Nat->Bool:=λi k=>if i<n/\k<n then fw M m i k else M i k
def F9 (n:Nat)(M:Nat->Nat->Bool):Nat->Nat->Nat->Bool
 |0=>M
 |m+1=>NV n (F9 n M m) m
def part (n:Nat)(M:Nat->Nat->Bool)(m i k:Nat)(c:Nat->Nat->Bool):Prop:=∀a b,c a b=if (a<i/\b<n)\/(a=i/\b<k)then fw M m a b else M a b
def aK (l:n0):Nat->Nat->Bool:=F9 (Z l) (λa b=>if a<Z l/\b<Z l then Ny l a b else false) (Z l)
def X7 {n M c m i k}(h:part n M m i k c)(a:k<n)(b:m<n):c i k=M i k/\c i m=M i m/\c m k=M m k:=by refine⟨?_,?_,?_⟩;rw[h,if_neg L];rw[h];split;rw[fw];cases M i m<;>simp;rfl;rw[h];split;rw[fw];cases M m k<;>simp;rfl
def mE {n M c m i k}(h:part n M m i k c){v}(e:v=fw M m i k):part n M m i (k+1) (set2 c i k v):=by intro a b;rw[set2];by_cases d:a=i/\b=k;obtain⟨rfl,rfl⟩:=d;rw[if_pos ⟨rfl,rfl⟩,if_pos L];exact e;rw[if_neg d,h];grind
def mF {n M c m i}(h:part n M m i n c):part n M m (i+1) 0 c:=by intro a b;rw[h];grind
def dV {n M m}:part n M m 0 0 M:=by intro a b;rw[if_neg L]
def mG {n M c m}(h:part n M m n 0 c):c=NV n M m:=by funext a b;rw[h];rw[NV];grind
def nJ {l M i k}(h:Uc l i k M)(v)(e:v=Ny l i k):Uc l i (k+1) (set2 M i k v):=by intro a b;rw[set2];by_cases d:a=i/\b=k;obtain⟨rfl,rfl⟩:=d;rw[if_pos ⟨rfl,rfl⟩,if_pos L];exact e;rw[if_neg d,h];grind
def WF {l M i}(h:Uc l i (Z l) M):Uc l (i+1) 0 M:=by intro a b;rw[h];grind
def WG {l M}(h:Uc l (Z l) 0 M):M=λa b=>if a<Z l/\b<Z l then Ny l a b else false:=by funext a b;rw[h];grind
def UG (l cs D)(F:r AJ l cs)(hl:Z l<=16)(hf:∀x∈l,x.fits)(N):ni 170 [sl D (Z l) cs] N λa2 c=>a2=ag (Gr (aK l))/\W N c:=by
 have a4:=r.length Cf F;have ax:=Ia;refine wl func170 ?_;refine X ?_
 refine Ae (λm s c=>∃(i:Nat) (M:Nat->Nat->Bool),m=Z l-i/\i<=Z l/\s 0=sl D (Z l) cs/\s 2=ptr N.B 0/\s 3=ptr (N.B+1) 0/\s 4=Y i/\W N c/\c.C (N.B+1)=Gr M/\N.B+1<c.B/\Z (c.C N.B)=256/\Uc l i 0 M) (Z l)
  ⟨0,λ_ _=>false,L,L,rfl,rfl,rfl,rfl,Xs,by rw[Be (by rw[Aa];exact AU _) (by rw[Aa];exact AU _),eS],by simp[Aa],by rw[Ah (by rw[Aa];omega),Ao,eS,Ia],by simp[Uc]⟩ ?_
 rintro m s c ⟨i,M,rfl,R,o,j,n,A,d,e,g,f,p⟩;by_cases u:i<Z l
 ·refine X ?_
  refine Ae (λm s c=>∃(k:Nat) (M:Nat->Nat->Bool),m=Z l-k/\k<=Z l/\s 0=sl D (Z l) cs/\s 2=ptr N.B 0/\s 3=ptr (N.B+1) 0/\s 4=Y i/\s 5=Y k/\W N c/\c.C (N.B+1)=Gr M/\N.B+1<c.B/\Z (c.C N.B)=256/\Uc l i k M) (Z l)
   ⟨0,M,L,L,by simp[upd,o],by simp[upd,j],by simp[upd,n],by simp[upd,A],rfl,d,e,g,f,p⟩ ?_
  clear d e g f p;rintro m s c ⟨k,M,rfl,a1,o,j,n,A,h5,d,e,g,f,p⟩;by_cases y:k<Z l
  ·let⟨a7,a6,b1,r1,an,a3⟩:=Cv F (AK u);let⟨a9,a8,b2,r2,a5,a0⟩:=Cv F (AK y);have Q:=hf l[i] (AR u)
   refine X ?_;refine Ax Ag (λ_=>True) [23] [0,1,2,3,4,5,6,7,8,9,10,11,12,13,14,15,16,17,18,21] [19,20,22,23] AH (λ_ _ _ h=>h) ?_;intro yb ya;refine Z3 ?_
   repeat' first|refine Z1 ?_|refine Z8 λyb ya=>?_|refine Z4 ?_;clear ya yb|refine Z2 ?_ ?_<;>intro h z<;>try exact Xp|refine Z5 ?_;refine Xi (Yp _ _ _ (AJ.of an) (ny Q.1) _) ?_;rintro _ _ ⟨rfl,C⟩;(have av:=C.C;have aw:=C.B)|refine Z3 ?_|exact Zt|apply ya.o;clear ya yb
   ·exact⟨Z l-(k+1),L,k+1,_,rfl,L,nk,(d.trans C).put L _,Y2 M L L _,L,nJ p _ (by simp[Ny,u,y, *])⟩
   exact⟨Z l-(k+1),L,k+1,_,rfl,L,nk,d.put L _,Y2 M L L _,nJ p _ (by simp[Ny,u,y, *])⟩
  obtain rfl:k=Z l:=L;refine X ?_;exact⟨Z l-(i+1),L,i+1,M,rfl,L,nk,rfl,WF p⟩
 obtain rfl:i=Z l:=L;cases WG p;clear p;refine mw ?_;intro h z;generalize G:(λ(a b:Nat)=>if a<Z l/\b<Z l then Ny l a b else false)=U at e;have au:V _:=G;clear G
 refine wn [0,2,3] 6 (Z l) (λm s c=>W N c/\c.C (N.B+1)=Gr (F9 (Z l) U m)/\N.B+1<c.B/\Z (c.C N.B)=256) ⟨d,e,g,f⟩ ?_
 clear d e g f o j n A h z u R;rintro m s c _ ⟨o,j,n⟩ v ⟨d,e,g,f⟩;by_cases u:m<Z l
 ·generalize K:F9 (Z l) U m=M at e;have ap:V _:=K;clear K
  refine X ?_
  refine Ae (λq s c=>∃(i:Nat) (B:Nat->Nat->Bool),q=Z l-i/\i<=Z l/\s 0=sl D (Z l) cs/\s 2=ptr N.B 0/\s 3=ptr (N.B+1) 0/\s 6=Y m/\s 7=Y i/\W N c/\c.C (N.B+1)=Gr B/\N.B+1<c.B/\Z (c.C N.B)=256/\part (Z l) M m i 0 B) (Z l)
   ⟨0,M,L,L,by simp[upd,o],by simp[upd,j],by simp[upd,n],by simp[upd,v],rfl,d,e,g,f,dV⟩ ?_
  clear d e g f o j n v;rintro q s c ⟨i,B,rfl,R,o,j,n,v,E,d,e,g,f,t⟩;by_cases y:i<Z l
  ·refine X ?_
   refine Ae (λq s c=>∃(k:Nat) (B:Nat->Nat->Bool),q=Z l-k/\k<=Z l/\s 0=sl D (Z l) cs/\s 2=ptr N.B 0/\s 3=ptr (N.B+1) 0/\s 6=Y m/\s 7=Y i/\s 8=Y k/\W N c/\c.C (N.B+1)=Gr B/\N.B+1<c.B/\Z (c.C N.B)=256/\part (Z l) M m i k B) (Z l)
    ⟨0,B,L,L,by simp[upd,o],by simp[upd,j],by simp[upd,n],by simp[upd,v],by simp[upd,E],rfl,d,e,g,f,t⟩ ?_
   clear d e g f o j n v E t;rintro q s c ⟨k,B,rfl,a1,o,j,n,v,E,h8,d,e,g,f,t⟩;by_cases ad:k<Z l
   ·let⟨T,I,S⟩:=X7 t ad u;have g1:=R4 B (i:=i) (k:=k) L L;have g2:=R4 B (i:=i) (k:=m) L L;have g3:=R4 B (i:=m) (k:=k) L L;have P:V (B i k=M i k/\B i m=M i m/\B m k=M m k):=⟨T,I,S⟩;clear T I S
    refine X ?_;refine Ax Ag (λ_=>True) [23] [0,1,2,3,4,5,6,7,8,9,10,11,12,13,14,15,16,17,18,19,20,21] [22,23] AH (λ_ _ _ h=>h) ?_;intro yb ya;refine Z3 ?_
    repeat' first|refine Z1 ?_|refine Z8 λyb ya=>?_|refine Z4 ?_;clear ya yb|refine Z2 ?_ ?_<;>intro h z<;>try exact Xp|refine Z3 ?_|exact Zt|apply ya.o;clear ya yb
    all_goals exact⟨Z l-(k+1),L,k+1,_,rfl,L,nk,d.put L _,Y2 B L L _,mE t (by have hv:=P.o;simp_all [fw])⟩
   obtain rfl:k=Z l:=L;refine X ?_;exact⟨Z l-(i+1),L,i+1,B,rfl,L,nk,rfl,mF t⟩
  obtain rfl:i=Z l:=L;refine X ?_;skip;rw[mG t,<-ap.o];rfl
 obtain rfl:m=Z l:=L;have ay:∀M,take 256 (Gr M)=Gr M:=λM=>FZ (by rw[Ia];exact AU _);have az:∀M,lsp (c.C N.B) 0 (Gr M)=Gr M:=λM=>I8 (by rw[Ia,f]);refine X ?_;exact⟨_,rfl,by rw[aK,au.o],d.put (AU _) _⟩
def Kl (l:n0)(i:Nat):List UInt8:=match l[i]? with|some x=>x.h.B|none=>[]
def rZ (l:n0)(p q:List UInt8)(i k:Nat):Bool:=aK l i k&&Kl l i==p&&Kl l k==q
def J2 (l:n0)(p q:List UInt8):Bool:=(range (Z l)).any λi=>(range (Z l)).any λk=>rZ l p q i k
def ll (l:n0)(p q:List UInt8)(i:Nat):Prop:=∀a,a<i->∀b,b<Z l->rZ l p q a b=false
def lk (l:n0)(p q:List UInt8)(i k:Nat):Prop:=∀b,b<k->rZ l p q i b=false
def Sy (l cs K p q)(o:r AJ l cs)(U:Z l<=16)(R:∀x∈l,x.fits)(N):ni 166 [sl K (Z l) cs,O p,O q] N λa1 e=>a1=my (J2 l p q)/\W N e:=by
 have ay:=r.length Cf o;have ao:=Ia;have ap:∀M,take 256 (Gr M)=Gr M:=λM=>FZ (by rw[Ia];exact AU _);have au:∀M,lsp (Pg 256 (.bool false)) 0 (Gr M)=Gr M:=λM=>I8 (by rw[Ia];simp[Pg]);have a3:Z (Pg 256 (.bool false))=256:=by simp[Pg]
 have av:∀M,(Gr M).all flat:=λM=>by simp[Gr,flat,Value.oneCell']
 refine wl func166 ?_;refine mt (UG l cs K o U R) ?_;rintro yb ya _ _ ⟨rfl,P⟩;refine X ?_;rename_i c;have g:((c.new (Pg 256 (.bool false))).put c.B (Gr (aK l))).C c.B=Gr (aK l):=Ak;have d:W N ((c.new (Pg 256 (.bool false))).put c.B (Gr (aK l))):=(P.new _).put P.B _;generalize (c.new (Pg 256 (.bool false))).put c.B (Gr (aK l))=E at g d
 refine wn [0,1,2,7] 8 (Z l) (λi s e=>e=E/\ll l p q i) ⟨rfl,λa h=>L⟩ ?_
 rintro i s e _ ⟨y,B,t,C⟩ v ⟨f,I⟩;replace f:=f.symm;subst f;by_cases z:i<Z l
 ·refine X ?_
  refine Ae (λm s e=>∃k:Nat,m=Z l-k/\k<=Z l/\s 0=sl K (Z l) cs/\s 1=O p/\s 2=O q/\s 7=ptr c.B 0/\s 8=Y i/\s 9=Y k/\e=E/\lk l p q i k) (Z l)
   ⟨0,L,L,by simp[upd,y],by simp[upd,B],by simp[upd,t],by simp[upd,C],by simp[upd,v],rfl,rfl,λb h=>L⟩ ?_
  clear y B t C v;rintro m s e ⟨k,rfl,a9,y,B,t,C,v,h9,f,F⟩;replace f:=f.symm;subst f;by_cases u:k<Z l
  ·let⟨a4,a2,b1,r1,a0,ax⟩:=Cv o (AK z);let⟨a6,a5,a7,r2,a8,aw⟩:=Cv o (AK u);have g1:=R4 (aK l) (i:=i) (k:=k) L L;have n:Kl l i=l[i].h.B:=by simp[Kl,z]
   have j:Kl l k=l[k].h.B:=by simp[Kl,u]
   have S:V (Kl l i=l[i].h.B/\Kl l k=l[k].h.B):=⟨n,j⟩;clear n j
   repeat' first|refine Z1 ?_|refine Z8 λyb ya=>?_|refine Z4 ?_;clear ya yb|refine Z2 ?_ ?_<;>intro h aa<;>try exact Xp|refine Z3 ?_|exact Zt|apply ya.o;clear ya yb
   all_goals
    let⟨n,j⟩:=S.o
    first
    |exact⟨_,rfl,by rw[J2,D4 (k:=i) (a:=i) _ (ns z) (D4 (k:=k) (a:=k) _ (ns u) (by simp only[rZ,n,j, *,Bool.and_self]))]⟩
    |exact⟨Z l-(k+1),L,k+1,rfl,L,nk,λb D=>by
     by_cases Q:b=k
     ·subst Q;simp only[rZ,n,j, *,Bool.and_false,Bool.false_and,Bool.and_true]
     exact F b L⟩
  obtain rfl:k=Z l:=L;refine X ?_
  exact λa A=>by
   by_cases T:a=i
   ·subst T;exact F
   exact I a L
 obtain rfl:i=Z l:=L;refine X ?_;have G:J2 l p q=false:=by
  unfold J2;rw[EV];intro a A;rw[mem_range]at A;simp only[JE];rw[EV];intro b D;rw[mem_range]at D;simp[I a A b D]
 first
 |exact⟨_,rfl,by rw[G],d⟩
 |exact⟨_,rfl,by rw[G]⟩
def Bn (p:Nat->Bool)(n:Nat):Int:=match (range n).find? p with|some i=>(i:Int)|none=> -1
def Gq {p n i}(e:i<n)(c:p i)(d:∀a,a<i->p a=false):Bn p n=i:=by
 rw[Bn];have:(range n).find? p=some i:=jx
 rw[this]
theorem Ci {p n}(b:∀a,a<n->p a=false):Bn p n= -1:=by
 rw[Bn];grind
def zH (l:n0)(h:List UInt8)(a:AE):Bool:=a.nt&&(a.B==h||J2 l a.B h)
def Hd (l:n0)(i:Nat):Bool:=match l[i]? with|some x=>x.A.any (zH l x.h.B)|none=>false
def ma (l:n0)(i:Nat):Prop:=∀a,a<i->Hd l a=false
def OG (l:n0)(x:AB)(j:Nat):Prop:=(x.A.take j).any (zH l x.h.B)=false
def yI (l cs m)(u:r AJ l cs)(F:Z l<=16)(z:∀x∈l,x.fits)(N):ni 162 [sl m (Z l) cs] N λC c=>C=Y (Bn (Hd l) (Z l))/\W N c:=by
 have P:=r.length Cf u;refine wl func162 ?_;refine X ?_
 refine wn [0] 3 (Z l) (λi s c=>W N c/\ma l i) ⟨W.refl _,λa h=>L⟩ ?_
 rintro i s c _ t q ⟨b,f⟩;by_cases d:i<Z l
 ·let⟨E,B,U,K,g,A⟩:=Cv u (AK d);have v:=z l[i] (AR d);have o:V (l[i]?=some l[i]):=AK d;generalize l[i]=x at g A v o;have S:=r.length A7 g;have I:=v.1
  refine X ?_
  refine wn [0,3] 4 (Z x.A) (λj s c=>W N c/\OG l x j) ⟨b,by simp[OG]⟩ ?_
  clear b t q;rintro j s c _ _ _ ⟨b,e⟩;by_cases y:j<Z x.A
  ·let⟨M,C,G⟩:=Ca g (AK y);have n:V (x.A[j]?=some x.A[j]):=AK y;generalize x.A[j]=a at G n
   refine X ?_;refine Ax Ag (λ_=>True) [24] [0,1,2,3,4,5,6,7,8,9,10,11,12,13,14,15,16,17,18,19,20,21] [22,23,24] AH (λ_ _ _ h=>h) ?_;intro yb ya;refine Z3 ?_
   repeat' first|refine Z1 ?_|refine Z8 λyb ya=>?_|refine Z4 ?_;clear ya yb|refine Z2 ?_ ?_<;>intro h Q<;>try exact Xp|refine Z5 ?_;refine Xi (Sy l cs m _ _ u F z _) ?_;rintro _ _ ⟨rfl,k⟩;(have R:=k.B)|refine Z3 ?_|exact Zt|apply ya.o;clear ya yb
   all_goals
    first
    |exact⟨_,rfl,by rw[Gq (p:=Hd l) d (by unfold Hd;rw[o.o];exact D4 _ n.o (by simp[zH, *])) f],by first|exact ((b.new _).put b.B _).trans k|exact (b.new _).put b.B _⟩
    |exact⟨by first|exact ((b.new _).put b.B _).trans k|exact (b.new _).put b.B _,by unfold OG at*;rw[any_take_succ _ n.o,e];simp[zH, *]⟩
  obtain rfl:j=Z x.A:=L;refine X ?_;skip;intro a T;by_cases D:a=i
  ·subst D;unfold OG at e;rw[AS]at e;unfold Hd;rw[o.o];exact e
  exact f a L
 obtain rfl:i=Z l:=L;refine X ?_
 first
 |exact⟨_,rfl,by rw[Ci f],b⟩
 |exact⟨_,rfl,by rw[Ci f]⟩
def clash (a b:AE):Bool:=b.B==a.B&&decide (Z b.A≠Z a.A)
def Ha (l:n0)(i:Nat):oq:=(l.take i).flatMap Af
def Ct (l:n0)(x:AB)(i j:Nat):oq:=Ha l i++(Af x).take j
def Mh (l:n0)(x:AB)(i j:Nat):Bool:=match (Af x)[j]? with|some a=>(Ct l x i j).any (clash a)|none=>false
def Gn (l:n0)(i:Nat):Bool:=match l[i]? with|some x=>(range (Z (Af x))).any (Mh l x i)|none=>false
def TV (l:n0)(i:Nat):Prop:=∀a,a<i->Gn l a=false
def TN (l:n0)(x:AB)(i j:Nat):Prop:=∀b,b<j->Mh l x i b=false
def OF (a:AE)(s:oq)(k:Nat):Prop:=(s.take k).any (clash a)=false
theorem I3 {l x i j a}(h:(Af x)[j]?=some a):Ct l x i (j+1)=Ct l x i j++[a]:=by simp_all[Ct,AT,CR]
def W2 {l x i j a}(h:(Af x)[j]?=some a):Z (Ct l x i (j+1))=Z (Ct l x i j)+1:=by simp_all[I3]
def dH {l x i}(h:l[i]?=some x):Ct l x i (Z (Af x))=Ct l x (i+1) 0:=by simp_all[Ct,Ha,AS,AT,EJ]
def AB.fits.atoms {x}(h:x.fits):Z (Af x)<=1001:=by let⟨a,b,c⟩:=h;rw[Af];grind
def VK {l}(a:∀x∈l,x.fits):∀i,Z (Ha l i)<=i*1001:=by
 intro i;induction i with
 |zero=>simp[Ha]
 |succ i b=>
  rw[Ha]at*
  rw[AT,KC,AX];cases h:l[i]? with
  |none=>simp only[Option.toList_none,flatMap_nil,CQ];omega
  |some x=>
   have:=(a x (AY h)).atoms;simp only[BN,DN,flatMap_nil,EJ];omega
def VU (l cs v)(R:r AJ l cs)(hl:Z l<=16)(Q:∀x∈l,x.fits)(z):ni 161 [sl v (Z l) cs] z λa4 d=>a4=Y (Bn (Gn l) (Z l))/\W z d:=by
 have ba:=r.length Cf R;refine wl func161 ?_;refine X ?_
 refine Ae (λm s d=>∃(i c:Nat) (e:oh),m=Z l-i/\i<=Z l/\s 0=sl v (Z l) cs/\s 3=sl c (Z (Ha l i)) e/\s 4=Y i/\W z d/\J z d c (Z (Ha l i))/\r Bf (Ha l i) e/\TV l i) (Z l)
  ⟨0,1,[],L,L,rfl,rfl,rfl,W.refl _,J.nil _ _,rfl,λa h=>L⟩ ?_
 rintro m s d ⟨i,c,e,rfl,hi,t,n,u,o,g,f,E⟩;have am:=VK Q i;by_cases D:i<Z l
 ·let⟨an,ak,b1,r1,a2,a3⟩:=Cv R (AK D);have y:=Q l[i] (AR D);have C:V (l[i]?=some l[i]):=AK D;generalize l[i]=x at a2 a3 y C;have bb:=y.atoms
  refine m0 ?_;intro yb ya;refine Xi (Qq _ _ (AJ.of a2) (ny y.1) _) ?_;rintro _ _ ⟨af,ah,rfl,U,T⟩;refine X ?_;rename_i z1;have a5:=r.length A7 U
  refine Ae (λm s d=>∃(j c:Nat) (e:oh),m=Z (Af x)-j/\j<=Z (Af x)/\s 0=sl v (Z l) cs/\s 3=sl c (Z (Ct l x i j)) e/\s 4=Y i/\s 5=sl af (Z (Af x)) ah/\s 6=Y j/\W z d/\J z d c (Z (Ct l x i j))/\r Bf (Ct l x i j) e/\TN l x i j) (Z (Af x))
   ⟨0,c,e,L,L,by simp[upd,t],by simp[upd,n,Ct],by simp[upd,u],AG,rfl,o.trans T,by simpa[Ct]using g.keep T,by simpa[Ct]using f,λb h=>L⟩ ?_
  clear o g f t n u T c e;rintro m s d ⟨j,c,e,rfl,hj,t,n,u,G,K,o,g,f,P⟩;have a9:Z (Ct l x i j)<=100000:=by rw[Ct];simp;omega
  by_cases I:j<Z (Af x)
  ·let⟨ia,a4,hd⟩:=Ca U (AK I);have q:V ((Af x)[j]?=some (Af x)[j]):=AK I;generalize (Af x)[j]=a at hd q;have a8:=r.length A7 f
   refine X ?_
   refine Ae (λm s d=>∃k:Nat,m=Z (Ct l x i j)-k/\k<=Z (Ct l x i j)/\s 0=sl v (Z l) cs/\s 3=sl c (Z (Ct l x i j)) e/\s 4=Y i/\s 5=sl af (Z (Af x)) ah/\s 6=Y j/\s 7=Y k/\W z d/\J z d c (Z (Ct l x i j))/\OF a (Ct l x i j) k) (Z (Ct l x i j))
    ⟨0,L,L,by simp[upd,t],by simp[upd,n],by simp[upd,u],by simp[upd,G],by simp[upd,K],rfl,o,g,by simp[OF]⟩ ?_
   clear o g t n u G K;rintro m s d ⟨k,rfl,hk,t,n,u,G,K,h7,o,g,A⟩;by_cases N:k<Z (Ct l x i j)
   ·let⟨ib,r',ai⟩:=Ca f (AK N);have F:V ((Ct l x i j)[k]?=some (Ct l x i j)[k]):=AK N;generalize (Ct l x i j)[k]=b at ai F
    refine X ?_;refine Ax Ag (λ_=>True) [25] [0,1,2,3,4,5,6,7,8,9,10,11,12,13,14,15,16,17,18,19,20,21,22,23,24] [25] AH (λ_ _ _ h=>h) ?_;intro yb ya;refine Z3 ?_
    repeat' first|refine Z1 ?_|refine Z8 λyb ya=>?_|refine Z4 ?_;clear ya yb|refine Z2 ?_ ?_<;>intro h ac<;>try exact Xp|refine Z6 ?_;intro B zn S aj ae ab ad aa|refine Z3 ?_|exact Zt|apply ya.o;clear ya yb
    all_goals
     first
     |exact⟨_,rfl,by
      rw[Gq (p:=Gn l) D ?_ E];rw[Gn];rw[C.o];refine D4 (k:=j) (a:=j) _ (ns I) ?_;rw[Mh];rw[q.o];refine D4 _ F.o ?_;simp[clash, *]
      first|done|(simp at h;omega)⟩
     |exact⟨Z (Ct l x i j)-(k+1),L,k+1,rfl,L,nk,by
      rw[OF]at*
      rw[any_take_succ _ F.o,A]
      first
      |(simp[clash, *];done)
      |(simp[clash];intro _;simp at h;omega)⟩
   have a1:k=Z (Ct l x i j):=L;have a0:Mh l x i j=false:=by rw[Mh];rw[q.o];rw[a1]at A;rw[OF]at A;rw[AS]at A;exact A
   have HN:V (Mh l x i j=false):=a0;clear a0;subst a1;refine m5 ?_;intro yb ya;intro B zn S aj ae ab ad aa;refine X ?_;rw[<-W2 (l:=l) (i:=i) q.o]at S;refine⟨Z (Af x)-(j+1),L,j+1,B,_,rfl,L,by rw[W2 q.o],nk,S,by rw[I3 q.o];exact f.append (r.single ⟨_,rfl⟩),?_⟩;intro b M;by_cases a6:b=j
   ·subst a6;exact HN.o
   exact P b L
  obtain rfl:j=Z (Af x):=L;rw[dH C.o]at n g f;refine X ?_;refine⟨Z l-(i+1),L,i+1,c,e,rfl,L,by simp[Ct],nk,by simpa[Ct]using g,by simpa[Ct]using f,?_⟩;intro a ha;by_cases a7:a=i
  ·subst a7;rw[Gn];rw[C.o];simp only;rw[EV];intro b M;rw[mem_range]at M;simp[P b M]
  exact E a L
 obtain rfl:i=Z l:=L;refine X ?_
 first
 |exact⟨_,rfl,by rw[Ci E],o⟩
 |exact⟨_,rfl,by rw[Ci E]⟩
def Dp (l:n0)(i:Nat):Bool:=match l[i]? with|some x=>!Db x|none=>false
def mb (l:n0)(i:Nat):Prop:=∀a,a<i->Dp l a=false
def Co (l:n0):Int×Int:=
 if 0<=Bn (Gn l) (Z l) then (3,Bn (Gn l) (Z l))
 else if 0<=Bn (Dp l) (Z l) then (4,Bn (Dp l) (Z l))
 else if 0<=Bn (Hd l) (Z l) then (5,Bn (Hd l) (Z l))
 else (0,0)
abbrev two (p:Int×Int):AV:=tp [Y p.1,Y p.2]
def eP {p n}:Bn p n<n+1:=by grind[Bn]
def Lc {p n}: -1<=Bn p n:=by grind[Bn]
def pL (l cs m)(g:r AJ l cs)(A:Z l<=16)(n:∀x∈l,x.fits)(z):ni 105 [sl m (Z l) cs] z λQ c=>Q=two (Co l)/\W z c:=by
 have M:=r.length Cf g;have G:=@Lc (Gn l) (Z l);have C:=@eP (Gn l) (Z l);apply wl func105;apply mt (VU l cs m g A n);rintro yb ya _ _ ⟨rfl,u⟩;refine m6 ?_ ?_<;>intro h q
 first
 |exact⟨_,rfl,by rw[Co];rw[if_pos (nn h)],nu⟩
 |exact⟨_,rfl,by grind[Co]⟩
 have y:¬0<=Bn (Gn l) (Z l):=nn h;have o:V (¬0<=Bn (Gn l) (Z l)):=y;clear y q h G C;rename_i K
 refine wn [0] 4 (Z l) (λi s c=>W z c/\mb l i) ⟨u,λa h=>L⟩ ?_
 rintro i s c _ _ _ ⟨d,e⟩;clear u;by_cases j:i<Z l;let⟨I,E,T,P,t,N⟩:=Cv g (AK j);have v:=n l[i] (AR j);have k:V (l[i]?=some l[i]):=AK j;generalize l[i]=x at t N v k;refine mt (dJ _ _ (AJ.of t) v) ?_;rintro yb ya _ _ ⟨rfl,b⟩;refine m6 ?_ ?_<;>intro h q;have f:Bn (Dp l) (Z l)=i:=Gq j (by rw[Dp];rw[k.o];simpa using h) e;exact⟨_,rfl,by rw[Co];rw[if_neg o.o,f,if_pos L],d.trans b⟩;have F:=h
 exact⟨d.trans b,λa R=>by
  by_cases D:a=i;subst D;rw[Dp];rw[k.o];simp[F]
  exact e a L⟩
 obtain rfl:i=Z l:=L;have f:=Ci (p:=Dp l) e;have B:V (¬0<=Bn (Dp l) (Z l)):=by rw[f];simp[V]
 refine mt (yI l cs m g A n) ?_;rintro yb ya _ _ ⟨rfl,b⟩;refine m6 ?_ ?_<;>intro h q;exact⟨_,rfl,by rw[Co];rw[if_neg o.o,if_neg B.o,if_pos (nn h)],d.trans b⟩;exact⟨_,rfl,by rw[Co];rw[if_neg o.o,if_neg B.o,if_neg (nn h)],d.trans b⟩
def P5:List UInt8->Bool
 |[]=>false
 |b::_=>(b.toNat:Int)==63
def rE (t:List UInt8):AB:={o:=true,h:={nt:=false,B:=(t.drop 1).take (Z t-1),A:=[]},A:=[]}
def T5 (t:List UInt8):AB:=
 {o:=false,h:=D3 ((t.drop 0).take (B7 t 58-0)),A:=if B7 t 58<Z t then (Ix ((t.drop (B7 t 58+2)).take (Z t-(B7 t 58+2))) 44).map D3 else []}
def Ir (t:List UInt8):AB:=if P5 t then rE t else T5 t
def Bl (s:List UInt8):n0:=(Ix s 46).map Ir
def gA (t:List UInt8):Prop:=Z t<=1000/\t≠[]/\(P5 t=false->B7 t 58<Z t->B7 t 58+2<=Z t)
def H4 {α b:Type}{l:List α}{k a}(f:α->b)(h:l[k]?=some a):(l.take (k+1)).map f=(l.take k).map f++[f a]:=by simp_all[AT]
def L8 (c):∀(s:List UInt8) (d:Bool) (a:List UInt8),∀t∈Cd c s d a,Z t<=Z a+Z s
 |[],d,a=>by grind[Cd]
 |b::g,d,a=>by
  unfold Cd
  all_goals
   simp only[];generalize (if ((b.toNat:Int)==41)=true then false else _)=f;split
   ·intro t e;obtain rfl|e:=BD.1 e
    ·simp
    have:=L8 c g f [] t e;simp at this⊢;omega
   intro t e;have:=L8 c g f (a++[b]) t e;simp at this⊢;omega
def L6 {s c t}(h:t∈Ix s c):Z t<=Z s:=by have:=L8 c s false [] t h;grind
def Qo {s c}:Z (Ix s c)<=Z s+1:=Kn c s false []
def L2 (s)(hs:Z s<=1000)(hc:Z (Ix s 46)<=1000)(hp:∀t∈Ix s 46,gA t)(z):ni 62 [O s] z λj f=>∃id cs,j=sl id (Z (Bl s)) cs/\r AJ (Bl s) cs/\W z f:=by
 refine wl func62 ?_;refine mt (Sd s _ L) ?_;rintro yb ya _ z1 ⟨ac,rfl,az⟩;refine X ?_;unfold Bl;generalize Ix s 46=a at hc hp
 refine Ae (λa8 s f=>∃(i d:Nat) (B:oh),a8=Z a-i/\i<=Z a/\s 3=sl d i B/\s 4=lw ac a/\s 5=Y i/\W z f/\J z f d i/\r AJ ((a.take i).map Ir) B) (Z a)
  ⟨0,1,[],L,L,rfl,rfl,rfl,az,J.nil _ _,rfl⟩ ?_
 rintro a8 s f ⟨i,d,B,rfl,a1,ad,h4,h5,n,D,y⟩;clear az;have au:=r.length Cf y;simp only[BV,CN,ER a1]at au;have Q:V (r AJ ((a.take i).map Ir) B):=y;clear y;by_cases aw:i<Z a
 ·have a3:=A1 aw;let⟨p1,p2,P⟩:=hp a[i] (AR aw);have o:V (a[i]?=some a[i]):=AK aw;generalize a[i]=t at a3 p1 p2 P o;have bc:=R1 t 58;cases t with
  |nil=>exact absurd rfl p2
  |cons b j=>
   have a4:(b::j)[0]?=some b:=rfl;simp only[BQ]at p1 P bc;by_cases G:((b.toNat:Int)==63)=true
   ·refine m5 ?_;intro yb ya;intro c K v I q T N a2;refine X ?_
    refine⟨Z a-(i+1),L,i+1,c,_,rfl,L,rfl,nk,v,?_⟩;rw[H4 Ir o.o];refine Q.o.append (r.single ?_);have a1:Ir (b::j)=rE (b::j):=by unfold Ir;rw[if_pos (by exact G)]
    rw[a1];exact⟨_,1,[],⟨1,rfl⟩,rfl,by simp[rE]⟩
   have G:((b.toNat:Int)==63)=false:=nn G;have HI:V (Ir (b::j)=T5 (b::j)):=by unfold V Ir;rw[if_neg (by simp[P5];simpa using G)]
   have p4:=P G;clear P;by_cases ax:B7 (b::j) 58<Z j+1
   ·have p5:=p4 ax;clear p4
    (repeat (refine m0 ?_;intro yb ya;(first|(refine Xi (Ld _ _ (by first|omega|(simp;omega)) _) ?_;rintro _ _ ⟨rfl,rfl⟩)|(refine Xi (Tu _ (by first|omega|(simp;omega)) _) ?_;rintro _ _ ⟨_,rfl,⟨C,rfl⟩,p⟩;(have ka:=p.B))|(refine Xi (Sd _ _ (by first|omega|(simp;omega)) _) ?_;rintro _ _ ⟨ah,rfl,m⟩;(have R:=m.C _ (by rw[Ac,Aa];exact Nat.lt_succ_self _);rw[Ak]at R;have kc:=m.B;simp only[Ac,Aa]at kc)))));refine X ?_
    rename_i z2 g zc;rw[show ((B7 (b::j) 58:Nat)+2:Int).toNat=B7 (b::j) 58+2 by omega];have ay:=@Qo (take (Z j+1-(B7 (b::j) 58+2)) (drop (B7 (b::j) 58+2) (b::j))) 44;have av:=λt=>@L6 (take (Z j+1-(B7 (b::j) 58+2)) (drop (B7 (b::j) 58+2) (b::j))) 44 t;have a7:Z (take (Z j+1-(B7 (b::j) 58+2)) (drop (B7 (b::j) 58+2) (b::j)))<=1000:=by simp;omega
    have x:V (T5 (b::j)={o:=false,h:=D3 (take (B7 (b::j) 58) (b::j)),A:=(Ix (take (Z j+1-(B7 (b::j) 58+2)) (drop (B7 (b::j) 58+2) (b::j))) 44).map D3}):=by
     unfold V T5;rw[if_pos (nn ax)];simp
    generalize Ix (take (Z j+1-(B7 (b::j) 58+2)) (drop (B7 (b::j) 58+2) (b::j))) 44=e at ay av x;generalize Z (take (Z j+1-(B7 (b::j) 58+2)) (drop (B7 (b::j) 58+2) (b::j)))=lq at ay av a7;generalize D3 (take (B7 (b::j) 58) (b::j))=u at R x m;have ap:W g zc:=(((W.refl g).new _).put (AU _) _).trans m;have bh:W z g:=n.trans p;have ae:=D.keep p
    refine wn [3,4,5,8,9] 10 (Z e) (λk s f=>∃(l:Nat) (F:oh),W g f/\J g f l k/\f.C g.B=[my false,my u.nt,O u.B,lw C u.A,sl l k F]/\g.B<f.B/\V (r Bf ((e.take k).map D3) F)) ⟨1,[],ap,J.nil _ _,R,L,rfl⟩ ?_
    clear ap m R kc ad h4 h5 n p D ka;rintro k s f hk _ _ ⟨l,F,n,D,U,hn,M⟩;have an:=r.length A7 M.o;simp only[BV,CN,ER hk]at an;by_cases S:k<Z e
    ·have a5:=A1 S;have a6:=av e[k] (AR S);have HM:V (e[k]?=some e[k]):=AK S;generalize e[k]=t at a5 a6 HM
     refine X ?_;refine Ax Ag (λ_=>True) [10] [0,1,2,3,4,5] [6,7,8,9,10] AH (λ_ _ _ h=>h) ?_;intro yb ya;refine Z3 ?_;refine mz ?_;refine Xi (Tu _ L _) ?_;rintro _ _ ⟨_,rfl,⟨it,rfl⟩,E⟩;have kt:=E.C _ hn;rw[U]at kt;have ai:=E.B;have bg:=n.trans E;have be:=D.keep E;refine X ?_;refine And.intro (Al (E.lay 1)) ?_;refine hZ bg ?_;intro c K v I q T N a2;have a9:∀ab,Kept (λaf=>![10].contains af) (λaj=>True) f ab K:=λab _ aa U _=>by rw[N];exact E.ver aa U
     have bi:K.C g.B=[my false,my u.nt,O u.B,lw C u.A,sl l k F]:=by rw[q];exact kt
     refine Z3 ?_
     repeat' first|refine And.intro (a9 _) ?_|refine And.intro (A3 rfl) ?_
     refine X ?_;have a0:r Bf ((e.take (k+1)).map D3) (F++[sc (Value.bool (D3 t).nt),O (D3 t).B,sl it (Z (D3 t).A) (map O (D3 t).A)]):=by
      rw[H4 D3 HM.o];exact M.o.append (r.single ⟨_,rfl⟩)
     first
     |exact⟨c,_,I.put (AU _) _,v,rfl,a0⟩
     |exact⟨c,_,I.put (AU _) _,v,rfl,L,a0⟩
    obtain rfl:k=Z e:=L;rw[AS]at M;have bf:=bh.trans n;have bd:=ae.keep n;clear n D;refine m5 ?_;intro yb ya;intro c K v I q T N a2;refine X ?_;refine⟨Z a-(i+1),L,i+1,c,_,rfl,L,rfl,nk,v,?_⟩;rw[H4 Ir o.o];refine Q.o.append (r.single ?_);rw[HI.o,x.o];exact⟨_,l,F,⟨C,rfl⟩,M.o,nk⟩
   clear p4
   (repeat (refine m0 ?_;intro yb ya;(first|(refine Xi (Ld _ _ (by first|omega|(simp;omega)) _) ?_;rintro _ _ ⟨rfl,rfl⟩)|(refine Xi (Tu _ (by first|omega|(simp;omega)) _) ?_;rintro _ _ ⟨_,rfl,⟨C,rfl⟩,p⟩;(have ka:=p.B)))));refine nh ?_;intro yb ya
   rename_i z2 g;have bf:=((n.trans p).new [sc (Value.bool false),sc (Value.bool false),sc (Value.string (bs [])),H,H]).put (n.trans p).B [sc (Value.bool false),sc (Value.bool (D3 (take (B7 (b::j) 58) (b::j))).nt),O (D3 (take (B7 (b::j) 58) (b::j))).B,sl C (Z (D3 (take (B7 (b::j) 58) (b::j))).A) (map O (D3 (take (B7 (b::j) 58) (b::j))).A),H];have bd:=D.keep ((p.new [sc (Value.bool false),sc (Value.bool false),sc (Value.string (bs [])),H,H]).put p.B [sc (Value.bool false),sc (Value.bool (D3 (take (B7 (b::j) 58) (b::j))).nt),O (D3 (take (B7 (b::j) 58) (b::j))).B,sl C (Z (D3 (take (B7 (b::j) 58) (b::j))).A) (map O (D3 (take (B7 (b::j) 58) (b::j))).A),H]);refine m4 ?_;intro c K v I q T N a2;refine X ?_;refine⟨Z a-(i+1),L,i+1,c,_,rfl,L,rfl,nk,v,?_⟩;rw[H4 Ir o.o];refine Q.o.append (r.single ?_);rw[HI.o];unfold T5;rw[if_neg (nn ax)];exact⟨_,1,[],⟨C,rfl⟩,rfl,nk⟩
 obtain rfl:i=Z a:=L;refine X ?_;have y:=Q.o;rw[AS]at y
 first
 |exact⟨_,rfl,d,B,nk,y,n⟩
 |exact⟨_,rfl,d,B,nk,y⟩
def oO (a s):Z (Ps a s).A<=Z s:=by rw[Ps];simp only;split;rename_i h;apply BI Qo;simp;omega;simp
def Uk (s):Z (D3 s).A<=Z s:=by rw[D3];apply BI (oO _ _);rw[Jd];grind
def rV {t}(h:Z t<=1000):(Ir t).fits:=by rw[Ir];split;exact⟨by simp[rE],by simp[rE],by simp[rE]⟩;rw[T5];refine⟨?_,?_,?_⟩;simp only;split;rw[BV];apply BI Qo;simp;omega;simp;simp only;apply BI (Uk _);simp;omega;simp only;split;intro a b;rw[AN]at b;obtain⟨u,c,rfl⟩:=b;apply BI (Uk _);apply BI (L6 c);simp;omega;simp
def nV (s:List UInt8):Prop:=Z (Ix s 46)<=16/\∀t∈Ix s 46,gA t
def Av (s:List UInt8):Int×Int:=
 if 600<Z s then (1,0)else if 0<=Eo s then (2,Eo s)else Co (Bl s)
def aP (s)(d:Z s<=600->¬0<=Eo s->nV s)(e: -1<=Eo s/\Eo s<=Z s)(z):ni 60 [O s] z λC j=>C=two (Av s)/\W z j:=by
 let⟨y,v⟩:=e;apply wl func60;by_cases b:600<Z s
 ·have g:Av s=(1,0):=by grind[Av]
  refine X ?_;exact⟨_,rfl,rfl,W.refl _⟩
 have d:=d L;by_cases f:0<=Eo s
 ·have g:Av s=(2,Eo s):=by grind[Av]
  refine mt (X4 s L) ?_;rintro yb ya _ _ ⟨rfl,a⟩;refine X ?_
  first
  |exact⟨_,rfl,rfl,a⟩
  |exact⟨_,rfl,rfl⟩
 have g:Av s=Co (Bl s):=by grind[Av]
 let⟨p,i⟩:=d f;have k:Z (Bl s)<=16:=by grind[Bl]
 have u:∀x∈Bl s,x.fits:=by intro x c;rw[Bl]at c;rw[AN]at c;obtain⟨t,m,rfl⟩:=c;exact rV (i t m).1
 repeat' first|refine Z1 ?_|refine Z8 λyb ya=>?_|refine Z4 ?_;clear ya yb|refine Z2 ?_ ?_<;>intro h B<;>try exact Xp|(refine Z5 ?_;first|(apply Xi (X4 s L _);rintro _ _ ⟨rfl,a⟩)|(apply Xi (L2 s L L i _);rintro _ _ ⟨q,A,rfl,n,l⟩)|(apply Xi (pL _ _ _ n k u _);rintro _ _ ⟨rfl,o⟩))|refine Z3 ?_|exact Zt|apply ya.o;clear ya yb
 exact⟨_,rfl,rfl,(a.trans l).trans o⟩
abbrev Tx:=List UInt8
abbrev ol:=List Tx
inductive Rd (α:Type) where
 |bad (e:Tx)
 |got (x:α) (rqx:Tx)
def Rd.bnd {α a:Type}:Rd α->(α->Tx->Rd a)->Rd a
 |.bad e,_=>.bad e
 |.got x b,f=>f x b
def A6 (c:Int):Bool:=decide (48<=c)&&decide (c<=57)
def A5 (c:Int):Tx->Rd Unit
 |[]=>.bad []
 |b::a=>if ((b.toNat:Int)==c)=true then .got () a else .bad (b::a)
def Ay (p:Int->Bool):Nat->Tx->Tx×Tx
 |0,s=>([],s)
 |_+1,[]=>([],[])
 |n+1,b::a=>if p b.toNat=true then (b::(Ay p n a).1,(Ay p n a).2)else ([],b::a)
def E7 (s:Tx):Rd Tx:=if (Ay B6 6 s).1=[]then .bad s else .got (Ay B6 6 s).1 (Ay B6 6 s).2
def C0:Tx->Rd Tx
 |[]=>.bad []
 |b::a=>if Bs b.toNat=true then .got [b] a else if ((b.toNat:Int)==48)=true then .got [b] a
  else if Gv b.toNat=true then .got (b::(Ay A6 2 a).1) (Ay A6 2 a).2 else .bad (b::a)
def D9 {α:Type}(f:Tx->Rd α):Nat->Tx->Rd (List α)
 |0,s=>.got [] s
 |_+1,[]=>.got [] []
 |n+1,b::e=>if ((b.toNat:Int)==44)=true then
  (f e).bnd λx a=>(D9 f n a).bnd λd c=>.got (x::d) c
  else .got [] (b::e)
def Yh (a:Bool)(p:Tx)(s:Tx):Rd AE:=
 (C0 s).bnd λt c=>(D9 C0 2 c).bnd λb c=>(A5 41 c).bnd λ_ c=>.got {nt:=a,B:=p,A:=t::b} c
def Ea (a:Bool)(s:Tx):Rd AE:=
 (E7 s).bnd λp b=>(A5 40 b).bnd λ_ b=>Yh a p b
def K4:Tx->Rd AE
 |[]=>.bad []
 |b::a=>if ((b.toNat:Int)==33)=true then Ea true a else Ea false (b::a)
def Ua (h:AE)(s:Tx):Rd AB:=
 (K4 s).bnd λl b=>(D9 K4 4 b).bnd λa b=>(A5 46 b).bnd λ_ b=>.got {o:=false,h:=h,A:=l::a} b
def Po (h:AE):Tx->Rd AB
 |[]=>.bad []
 |b::a=>if ((b.toNat:Int)==46)=true then .got {o:=false,h:=h,A:=[]} a else
  (A5 58 (b::a)).bnd λ_ a=>(A5 45 a).bnd λ_ a=>Ua h a
def Pp (s:Tx):Rd AB:=(Ea false s).bnd λh a=>Po h a
def gB (s:Tx):Rd AB:=
 (E7 s).bnd λp a=>(A5 46 a).bnd λ_ a=>.got {o:=true,h:={nt:=false,B:=p,A:=[]},A:=[]} a
def F4:Tx->Rd AB
 |[]=>.bad []
 |b::a=>if ((b.toNat:Int)==63)=true then gB a else Pp (b::a)
def Cc:Nat->Tx->Rd n0
 |_,[]=>.got [] []
 |0,s=>.bad s
 |n+1,s=>(F4 s).bnd λx b=>(Cc n b).bnd λa b=>.got (x::a) b
def stop:BE->Tx->Option Tx
 |a,[]=>if a.st !=0 then some []else none
 |a,c::b=>if (A9 a c).2=true then stop (A9 a c).1 b else some (c::b)
def xD:∀(s:Tx) (b:BE) (i:Nat),
  (match (M8 b s i).2 with|some j=>(j:Int)|none=>if (M8 b s i).1.st !=0 then ((i+Z s:Nat):Int)else -1)=match stop b s with|some d=>((i+Z s-Z d:Nat):Int)|none=> -1:=by
 intro s;induction s with
 |nil=>intro b i;simp only[M8,stop];split<;>simp_all
 |cons c d a=>
  intro b i;rw[M8,stop];by_cases h:(A9 b c).2=true;simp only[h,if_true];have:=a (A9 b c).1 (i+1);rw[show i+Z (c::d)=i+1+Z d by simp;omega];exact this;simp only[h];simp
theorem mA (s):Eo s=match stop J6 s with|some a=>((Z s-Z a:Nat):Int)|none=> -1:=by have:=xD s J6 0;rw[Eo];grind
def BW {α:Type}(P:BE->Prop)(a:Rd α)(o:Option Tx):Prop:=
 match a with
 |.bad e=>o=some e
 |.got _ c=>∃b,P b/\o=stop b c
def BW.bind {α c:Type}{P Q a o}{f:α->Tx->Rd c}(h:BW P a o)(k:∀x g b,P b->BW Q (f x g) (stop b g)):BW Q (a.bnd f) o:=by
 cases a with
 |bad e=>exact h
 |got x g=>
  obtain⟨b,d,rfl⟩:=h;exact k x g b d
def BW.ret {α:Type}{P}{x:α}{b a}(h:P a):BW P (.got x b) (stop a b):=⟨a,h,rfl⟩
def BW.err {α:Type}{P e o}(h:o=some e):BW (α:=α) P (.bad e) o:=h
def Dk {a c b}(h:(A9 a c).2):stop a (c::b)=stop (A9 a c).1 b:=by grind[stop]
def Gj {a c b}(h:(A9 a c).2=false):stop a (c::b)=some (c::b):=by grind[stop]
def Du {a}(h:a.st≠0):stop a []=some []:=by grind[stop]
def OQ (b a:BE):Prop:=a.items=b.items/\a.lits=b.lits/\a.h=b.h
def UI:∀(n:Nat) (s:Tx) (a:BE),a.st=5->a.letters=6-(n:Int)->n<=6->
  BW (λi=>i.st=6/\i.A=0/\OQ a i) (A5 40 (Ay B6 n s).2) (stop a s):=by
 intro n;induction n with
 |zero=>
  intro s a d g k;cases s with
  |nil=>exact BW.err (Du L)
  |cons b l=>
   unfold Ay A5;simp only;by_cases c:((b.toNat:Int)==40)=true;rw[if_pos c];have e:A9 a b=({a with A:=0,st:=6},true):=by grind[A9,D7]
   rw[Dk (gp),e];exact BW.ret ⟨rfl,rfl,rfl,rfl,rfl⟩;rw[if_neg c];refine BW.err (Gj ?_);simp[A9,D7,d,g,c]
 |succ n j=>
  intro s a d g k;cases s with
  |nil=>exact BW.err (Du L)
  |cons b l=>
   rw[Ay];by_cases f:B6 b.toNat=true;rw[if_pos f];have e:A9 a b=({a with letters:=a.letters+1},true):=by grind[A9,D7]
   rw[Dk (gp),e];exact j l {a with letters:=a.letters+1} d (gp) L;rw[if_neg f];unfold A5;simp only;by_cases c:((b.toNat:Int)==40)=true;rw[if_pos c];have e:A9 a b=({a with A:=0,st:=6},true):=by grind[A9,D7]
   rw[Dk (gp),e];exact BW.ret ⟨rfl,rfl,rfl,rfl,rfl⟩;rw[if_neg c];refine BW.err (Gj ?_);simp[A9,D7,d,f,c]
def Gy {α b c:Type}(a:Rd α)(f)(g:b->Tx->Rd c):(a.bnd f).bnd g=a.bnd λx d=>(f x d).bnd g:=by cases a<;>rfl
def CB {c}:A6 c↔(Gv c\/(c==48)):=by grind[A6,Gv]
theorem Nq {c}(h:Bs c):Gv c=false:=by grind[Bs,Gv]
def M4 {a s}(f:a.st=7)(h:∀b m,s=b::m->A6 b.toNat->¬a.digits<3):stop a s=stop {a with st:=8} s:=by
 cases s with
 |nil=>rw[Du L,Du nk]
 |cons b m=>
  have k:=h b m rfl;have g:¬((a.st==7)/\decide (a.digits<3)/\(Gv b.toNat\/((b.toNat:Int)==48))):=by rintro⟨-,j,i⟩;exact k (CB.2 i) (nn j)
  have l:A9 a b=if ((b.toNat:Int)==41)=true then ({a with lits:=if (!a.h)=true then a.lits+1 else a.lits,st:=9},true)else if ((b.toNat:Int)==44)/\decide (a.A<3)=true then ({a with st:=6},true)else (a,false):=by grind[A9,D7]
  have e2:A9 {a with st:=8} b=if ((b.toNat:Int)==41)=true then ({a with lits:=if (!a.h)=true then a.lits+1 else a.lits,st:=9},true)else if ((b.toNat:Int)==44)/\decide (a.A<3)=true then ({a with st:=6},true)else ({a with st:=8},false):=by grind[A9,D7]
  unfold stop;rw[l,e2];by_cases e:((b.toNat:Int)==41)=true;rw[if_pos e,if_pos e];rw[if_neg e,if_neg e];by_cases d:((b.toNat:Int)==44)/\decide (a.A<3)=true;rw[if_pos d,if_pos d];rw[if_neg d,if_neg d];rfl
def pQ:∀(n:Nat) (s:Tx) (d:BE),d.st=7->d.digits=3-(n:Int)->∃f,f.st=8/\f.A=d.A/\OQ d f/\stop d s=stop f (Ay A6 n s).2:=by
 intro n;induction n with
 |zero=>
  intro s d a l;exact⟨{d with st:=8},rfl,rfl,⟨rfl,rfl,rfl⟩,M4 a (λ_ _ _ _=>L)⟩
 |succ n k=>
  intro s d a l;cases s with
  |nil=>exact⟨{d with st:=8},rfl,rfl,⟨rfl,rfl,rfl⟩,M4 a (λ_ _ h _=>gp)⟩
  |cons b v=>
   rw[Ay];by_cases g:A6 b.toNat=true;rw[if_pos g];have e:A9 d b=({d with digits:=d.digits+1},true):=by have:=CB.1 g;rw[A9,D7];grind
   rw[Dk (gp),e];let⟨f,p,m,o,t⟩:=k v {d with digits:=d.digits+1} a (gp);exact⟨f,p,m,o,t⟩;rw[if_neg g];exact⟨{d with st:=8},rfl,rfl,⟨rfl,rfl,rfl⟩,M4 a (λc q h j=>gp)⟩
def jB (s m)(f:m.st=6):BW (λd=>d.st=8/\d.A=m.A+1/\OQ m d) (C0 s) (stop m s):=by
 cases s with
 |nil=>exact BW.err (Du L)
 |cons b n=>
  rw[C0];by_cases a:Bs b.toNat=true;simp only[a,if_true];have e:A9 m b=({m with A:=m.A+1,digits:=1,st:=8},true):=by grind[A9,D7,Nq]
  rw[Dk (gp),e];exact BW.ret ⟨rfl,rfl,rfl,rfl,rfl⟩;simp only[a];by_cases g:((b.toNat:Int)==48)=true;have c:Gv b.toNat=false:=by grind[Gv]
  simp only[g,if_true];have e:A9 m b=({m with A:=m.A+1,digits:=1,st:=8},true):=by grind[A9,D7]
  rw[Dk (gp),e];exact BW.ret ⟨rfl,rfl,rfl,rfl,rfl⟩;simp only[g];by_cases c:Gv b.toNat=true;simp only[c,if_true];have e:A9 m b=({m with A:=m.A+1,digits:=1,st:=7},true):=by grind[A9,D7]
  rw[Dk (gp),e];let⟨d,k,i,j,l⟩:=pQ 2 n {m with A:=m.A+1,digits:=1,st:=7} rfl nk;exact⟨d,⟨k,i,j⟩,l⟩;simp only[c];refine BW.err (Gj ?_);simp[A9,D7,f,a,g,c]
def OI (c a:Int)(b:Bool)(d:BE):Prop:=d.st=9/\d.items=c/\d.h=b/\d.lits=if b=true then a else a+1
def bI {g:Type}(s d)(k:g)(c:d.st=8)(h:∀b l,s=b::l->((b.toNat:Int)==44)->¬d.A<3):
  BW (OI d.items d.lits d.h) ((A5 41 s).bnd λ_ l=>.got k l) (stop d s):=by
 cases s with
 |nil=>exact BW.err (Du L)
 |cons b l=>
  rw[A5];have i:=h b l rfl;by_cases a:((b.toNat:Int)==41)=true;simp only[a,if_true];have e:A9 d b=({d with lits:=if (!d.h)=true then d.lits+1 else d.lits,st:=9},true):=by grind[A9,D7]
  rw[Dk (gp),e];refine BW.ret ⟨rfl,rfl,rfl,?_⟩;cases d.h<;>simp;simp only[a];refine BW.err (Gj ?_);simp[A9,D7,c,a];rw[if_neg];rintro⟨f,j⟩;have:=i (nn f);omega
def UM {g:Type}:∀(n:Nat) (s:Tx) (i:BE) (k:ol->g),i.st=8->i.A=3-(n:Int)->
  BW (OI i.items i.lits i.h) ((D9 C0 n s).bnd λf A=>(A5 41 A).bnd λ_ A=>.got (k f) A) (stop i s):=by
 intro n;induction n with
 |zero=>
  intro s i k a t;exact bI s i (k []) a (λ_ _ _ _=>L)
 |succ n o=>
  intro s i k a t;cases s with
  |nil=>exact BW.err (Du L)
  |cons b A=>
   rw[D9];by_cases d:((b.toNat:Int)==44)=true;simp only[d,if_true];have e:A9 i b=({i with st:=6},true):=by grind[A9,D7]
   rw[Dk (gp),e,Gy];apply BW.bind (jB A {i with st:=6} rfl);rintro x m p ⟨y,u,v,z,l⟩;rw[Gy];have:=o m p (λf=>k (x::f)) y (gp);rw[v,z,l]at this;exact this;simp only[d];exact bI (b::A) i (k []) a (λc q h j=>gp)
def Vr (M b I K P Q N)(i:B6 b.toNat->∃a,A9 K b=(a,true)/\a.st=5/\a.letters=1/\a.items=P/\a.lits=Q/\a.h=N)
  (x:B6 b.toNat=false->(A9 K b).2=false):BW (OI P Q N) (Ea M (b::I)) (stop K (b::I)):=by
 rw[Ea,E7];by_cases c:B6 b.toNat=true;let⟨a,e,D,R,s,p,f⟩:=i c;rw[Dk (gp),e];have d:Ay B6 6 (b::I)=(b::(Ay B6 5 I).1,(Ay B6 5 I).2):=by grind[Ay]
 rw[d];simp only[reduceCtorEq,if_false,Rd.bnd];apply BW.bind (UI 5 I a D L L);rintro _ g o ⟨q,G,u,E,C⟩;rw[Yh];apply BW.bind (jB g o q);rintro t j y ⟨l,F,k,z,n⟩;have:=UM 2 j y (λm=>({nt:=M,B:=b::(Ay B6 5 I).1,A:=t::m}:AE)) l L;rw[k,u,s,z,E,p,n,C,f]at this;exact this;have v:B6 b.toNat=false:=nn c;have d:Ay B6 6 (b::I)=([],b::I):=by grind[Ay]
 rw[d];simp only[if_true,Rd.bnd];exact BW.err (Gj (x v))
def tL (s a)(g:a.st=3):BW (OI a.items a.lits a.h) (K4 s) (stop a s):=by
 cases s with
 |nil=>exact BW.err (Du L)
 |cons b j=>
  rw[K4];by_cases f:((b.toNat:Int)==33)=true;simp only[f,if_true];have e:A9 a b=({a with letters:=1,st:=4},true):=by grind[A9,C2]
  rw[Dk (gp),e];cases j with
  |nil=>
   refine BW.err (Du nk)
  |cons c q=>
   refine Vr true c q _ _ _ _ (λd=>⟨{a with letters:=1,st:=5},?_,rfl,rfl,rfl,rfl,rfl⟩) (λd=>?_);simp[A9,C2,d];simp[A9,C2,d]
  simp only[f];refine Vr false b j _ _ _ _ (λd=>⟨{a with letters:=1,st:=5},?_,rfl,rfl,rfl,rfl,rfl⟩) (λd=>?_);simp[A9,C2,g,f,d];simp[A9,C2,g,f,d]
def Next (a:Int)(b:BE):Prop:=b.st=0/\b.items=a+1
def tM {f:Type}(s c)(k:f)(d:c.st=9)(i:c.h=false)(h:∀b m,s=b::m->((b.toNat:Int)==44)->¬c.lits<5):
  BW (Next c.items) ((A5 46 s).bnd λ_ m=>.got k m) (stop c s):=by
 cases s with
 |nil=>exact BW.err (Du L)
 |cons b m=>
  rw[A5];have g:=h b m rfl;by_cases a:((b.toNat:Int)==46)=true;simp only[a,if_true];have e:A9 c b=({c with items:=c.items+1,st:=0},true):=by grind[A9,C2]
  rw[Dk (gp),e];exact BW.ret ⟨rfl,rfl⟩;simp only[a];refine BW.err (Gj ?_);simp[A9,C2,d,a,i];rw[if_neg];rintro⟨j,l⟩;have:=g (nn j);omega
def UJ {j:Type}:∀(n:Nat) (s:Tx) (l:BE) (k:oq->j),l.st=9->l.h=false->l.lits=5-(n:Int)->
  BW (Next l.items) ((D9 K4 n s).bnd λg A=>(A5 46 A).bnd λ_ A=>.got (k g) A) (stop l s):=by
 intro n;induction n with
 |zero=>
  intro s l k d a u;exact tM s l (k []) d a (λ_ _ _ _=>L)
 |succ n p=>
  intro s l k d a u;cases s with
  |nil=>exact BW.err (Du L)
  |cons b A=>
   rw[D9];by_cases f:((b.toNat:Int)==44)=true;simp only[f,if_true];have e:A9 l b=({l with st:=3},true):=by grind[A9,C2]
   rw[Dk (gp),e,Gy];apply BW.bind (tL A {l with st:=3} rfl);rintro x o t ⟨i,v,y,z⟩;rw[Gy];have:=p o t (λg=>k (x::g)) i (y▸a) (gp);exact v▸this;simp only[f];exact tM (b::A) l (k []) d a (λc q h m=>gp)
def UL (h s k)(e:k.st=3)(a:k.h=false)(c:k.lits=0):BW (Next k.items) (Ua h s) (stop k s):=by rw[Ua];apply BW.bind (tL s k e);rintro x l f ⟨g,d,i,b⟩;have:=UJ 4 l f (λj=>({o:=false,h:=h,A:=x::j}:AB)) g (i▸a) (gp);exact d▸this
def UH (h s d)(i:d.st=9)(k:d.h)(l:d.lits=0):BW (Next d.items) (Po h s) (stop d s):=by
 cases s with
 |nil=>exact BW.err (Du L)
 |cons b m=>
  rw[Po];by_cases a:((b.toNat:Int)==46)=true;simp only[a,if_true];have e:A9 d b=({d with items:=d.items+1,st:=0},true):=by grind[A9,C2]
  rw[Dk (gp),e];exact BW.ret ⟨rfl,rfl⟩;simp only[a];unfold A5;by_cases f:((b.toNat:Int)==58)=true;simp only[f,if_true];have e:A9 d b=({d with st:=10},true):=by grind[A9,C2]
  rw[Dk (gp),e];cases m with
  |nil=>exact BW.err (Du nk)
  |cons c q=>
   by_cases g:((c.toNat:Int)==45)=true;simp only[g,if_true,Rd.bnd];have e:A9 {d with st:=10} c=({d with h:=false,st:=3},true):=by grind[A9,C2]
   simp only[EI,if_false];rw[Dk (gp),e];exact UL h q {d with h:=false,st:=3} rfl rfl l;simp only[g,Rd.bnd];refine BW.err (Gj ?_);simp[A9,C2,g]
  simp only[f];refine BW.err (Gj ?_);simp[A9,C2,i,a,f,k]
def wO:∀(n:Nat) (s:Tx) (a:BE) (k:Tx->AB),a.st=2->a.letters=6-(n:Int)->
  BW (Next a.items) ((A5 46 (Ay B6 n s).2).bnd λ_ d=>.got (k (Ay B6 n s).1) d) (stop a s):=by
 intro n;induction n with
 |zero=>
  intro s a k f i;cases s with
  |nil=>exact BW.err (Du L)
  |cons b d=>
   rw[Ay,A5];by_cases c:((b.toNat:Int)==46)=true;simp only[c,if_true];have e:A9 a b=({a with items:=a.items+1,st:=0},true):=by grind[A9,C2]
   rw[Dk (gp),e];exact BW.ret ⟨rfl,rfl⟩;simp only[c];refine BW.err (Gj ?_);simp[A9,C2,f,i,c]
 |succ n j=>
  intro s a k f i;cases s with
  |nil=>exact BW.err (Du L)
  |cons b d=>
   rw[Ay];by_cases g:B6 b.toNat=true;simp only[g,if_true];have e:A9 a b=({a with letters:=a.letters+1,st:=2},true):=by grind[A9,C2]
   rw[Dk (gp),e];exact j d {a with letters:=a.letters+1,st:=2} (λx=>k (b::x)) rfl (gp);simp only[g];unfold A5;by_cases c:((b.toNat:Int)==46)=true;simp only[EI,if_false,c,if_true];have e:A9 a b=({a with items:=a.items+1,st:=0},true):=by grind[A9,C2]
   rw[Dk (gp),e];exact BW.ret ⟨rfl,rfl⟩;simp only[EI,if_false,c];refine BW.err (Gj ?_);simp[A9,C2,f,g,c]
def UK (b s p)(f:p.st=0)(g:p.items≠16):BW (Next p.items) (F4 (b::s)) (stop p (b::s)):=by
 unfold F4;by_cases d:((b.toNat:Int)==63)=true;simp only[d,if_true];have e:A9 p b=({p with h:=true,letters:=0,lits:=0,st:=1},true):=by grind[A9,C2]
 rw[Dk (gp),e];unfold gB E7;cases s with
 |nil=>exact BW.err (Du nk)
 |cons c q=>
  by_cases a:B6 c.toNat=true;have i:Ay B6 6 (c::q)=(c::(Ay B6 5 q).1,(Ay B6 5 q).2):=by grind[Ay]
  rw[i];simp only[reduceCtorEq,if_false,Rd.bnd];have e:A9 {p with h:=true,letters:=0,lits:=0,st:=1} c=({p with h:=true,letters:=1,lits:=0,st:=2},true):=by grind[A9,C2]
  rw[Dk (gp),e];exact wO 5 q {p with h:=true,letters:=1,lits:=0,st:=2} (λx=>{o:=true,h:={nt:=false,B:=c::x,A:=[]},A:=[]}) rfl nk;have i:Ay B6 6 (c::q)=([],c::q):=by grind[Ay]
  rw[i];simp only[if_true,Rd.bnd];refine BW.err (Gj ?_);simp[A9,C2,a]
 simp only[d];unfold Pp;refine BW.bind (Vr false b s p p.items 0 true (λa=>⟨{p with h:=true,letters:=1,lits:=0,st:=5},?_,rfl,rfl,rfl,rfl,rfl⟩) (λa=>?_)) ?_;simp[A9,C2,f,g,d,a];simp[A9,C2,f,g,d,a];rintro x s j ⟨m,k,l,n⟩;have:=UH x s j m l (nn n);exact k▸this
theorem wP:∀(n:Nat) (s:Tx) (m:BE),m.st=0->m.items=16-(n:Int)->stop m s=match Cc n s with|.bad e=>some e|.got _ _=>none:=by
 intro n;induction n with
 |zero=>
  intro s m a f;cases s with
  |nil=>simp[stop,Cc,a]
  |cons b o=>
   simp only[Cc];apply Gj;simp[A9,C2,a,f]
 |succ n g=>
  intro s m a f;cases s with
  |nil=>simp[stop,Cc,a]
  |cons b o=>
   have c:=UK b o m a L;unfold Cc;cases d:F4 (b::o)with
   |bad e=>rw[d]at c;exact c
   |got x q=>
    rw[d]at c;let⟨j,⟨k,l⟩,i⟩:=c;rw[i,g q j k L];simp only[Rd.bnd];cases Cc n q<;>rfl
theorem Hb (s):Eo s=match Cc 16 s with|.bad e=>((Z s-Z e:Nat):Int)|.got _ _=> -1:=by grind[mA,wP,J6]
def L9 {b:UInt8}(c)(h:((b.toNat:Int)==(c.toNat:Int))):b=c:=by
 have:b.toNat=c.toNat:=gp
 exact UInt8.toNat_inj.1 this
def Jy (p:Tx):Prop:=p≠[]/\∀b∈p,B6 b.toNat
def Mm (t:Tx):Prop:=t≠[]/\∀b∈t,Bs b.toNat\/A6 b.toNat
def En (a:AE):Prop:=Jy a.B/\a.A≠[]/\Z a.A<=3/\∀t∈a.A,Mm t
def Dc (x:AB):Prop:=Jy x.h.B/\(x.o->x.h.nt=false/\x.h.A=[]/\x.A=[])/\(x.o=false->En x.h/\x.h.nt=false/\Z x.A<=5/\∀a∈x.A,En a)
def Ch (a:ol):Tx:=a.flatMap λt=>44::t
def Bp:ol->Tx
 |[]=>[]
 |t::a=>t++Ch a
def Bh (a:AE):Tx:=a.B++40::(Bp a.A++[41])
def Cl (a:AE):Tx:=(if a.nt=true then [33]else [])++Bh a
def D1 (x:AB):Tx:=Bh x.h++(if x.A=[]then []else 58::45::Bp (x.A.map Cl))
def Bz (x:AB):Tx:=if x.o=true then 63::x.h.B else D1 x
def A8 {α b:Type}{a:Rd α}{f}{y:b}{c}(h:a.bnd f= .got y c):∃x q,a= .got x q/\f x q= .got y c:=by
 cases a with
 |bad e=>cases h
 |got x q=>exact⟨x,q,rfl,h⟩
def I7 {c s d x}(h:A5 c.toNat s= .got x d):s=c::d:=by
 cases s with
 |nil=>cases h
 |cons b q=>
  unfold A5 at h;dsimp only at h;split at h;rename_i a;cases h;rw[L9 c a];cases h
def Ek (p):∀(n:Nat) (s:Tx),s=(Ay p n s).1++(Ay p n s).2/\(∀b∈(Ay p n s).1,p b.toNat)
 |0,s=>by simp[Ay]
 |n+1,[]=>by simp[Ay]
 |n+1,b::f=>by rw[Ay];split;rename_i h;let⟨e,d⟩:=Ek p n f;refine⟨gp,?_⟩;intro c a;obtain rfl|a:=BD.1 a;exact h;exact d c a;simp
def Qc {s b p}(h:E7 s= .got p b):s=p++b/\Jy p:=by rw[E7]at h;split at h;cases h;rename_i a;cases h;exact⟨(Ek B6 6 s).1,a,(Ek B6 6 s).2⟩
def Ya {s j t}(h:C0 s= .got t j):s=t++j/\Mm t:=by
 cases s with
 |nil=>cases h
 |cons b q=>
  unfold C0 at h;dsimp only at h;split at h;rename_i d;cases h;exact⟨rfl,nk,ns d⟩;split at h;rename_i i;cases h;refine⟨rfl,nk,?_⟩;intro c a;simp at a;subst a;right;simp[A6]at*
  omega;split at h;rename_i f;cases h;let⟨g,e⟩:=Ek A6 2 q;refine⟨gp,nk,?_⟩;intro c a;obtain rfl|a:=BD.1 a;right;exact CB.2 (.inl f);right;exact e c a;cases h
def Yc {α:Type}{C:α->Prop}{u f}(g:∀s x B,f s= .got x B->s=u x++B/\C x):∀(n:Nat) (s:Tx) (xs:List α) (B:Tx),D9 f n s= .got xs B->
  s=Ch (xs.map u)++B/\Z xs<=n/\∀x∈xs,C x:=by
 intro n;induction n with
 |zero=>intro s xs B h;cases h;simp[Ch]
 |succ n e=>
  intro s xs B h;cases s with
  |nil=>cases h;simp[Ch]
  |cons b q=>
   rw[D9]at h;split at h;rename_i i;let⟨x,z,o,j⟩:=A8 h;let⟨t,v,l,p⟩:=A8 j;cases p;let⟨k,d⟩:=g _ _ _ o;let⟨m,A,c⟩:=e _ _ _ l;refine⟨?_,gp,?_⟩;rw[L9 44 i,k,m];simp[Ch];intro y a;obtain rfl|a:=BD.1 a;exact d;exact c y a;cases h;simp[Ch]
def Jg {d s I a}(h:Ea d s= .got a I):s=Bh a++I/\En a/\a.nt=d:=by unfold Ea Yh at h;let⟨p,D,q,h⟩:=A8 h;let⟨_,A,k,h⟩:=A8 h;let⟨t,B,m,h⟩:=A8 h;let⟨E,F,v,h⟩:=A8 h;let⟨_,C,e,h⟩:=A8 h;cases h;let⟨j,l⟩:=Qc q;have z:=I7 (c:=40) k;let⟨i,g⟩:=Ya m;let⟨f,G,n⟩:=Yc (u:=id) (λs x I h=>Ya h) _ _ _ _ v;have o:=I7 (c:=41) e;refine⟨?_,⟨l,nk,gp,?_⟩,rfl⟩;rw[j,z,i,f,o];simp[Bh,Bp];intro y b;obtain rfl|b:=BD.1 b;exact g;exact n y b
def dX {s g a}(h:K4 s= .got a g):s=Cl a++g/\En a:=by
 cases s with
 |nil=>cases h
 |cons b q=>
  unfold K4 at h;dsimp only at h;split at h;rename_i f;let⟨e,c,d⟩:=Jg h;exact⟨by rw[L9 33 f,e];simp[Cl,d],c⟩;let⟨e,c,d⟩:=Jg h;exact⟨by grind[Cl],c⟩
def Yf {s P x}(h:F4 s= .got x P):s=Bz x++46::P/\Dc x:=by
 cases s with
 |nil=>cases h
 |cons b q=>
  unfold F4 at h;dsimp only at h;split at h;rename_i C;rw[gB]at h;let⟨p,j,g,h⟩:=A8 h;let⟨_,v,f,h⟩:=A8 h;cases h;let⟨e,a⟩:=Qc g;have d:=I7 (c:=46) f;exact⟨by rw[L9 63 C,e,d];simp[Bz],a,nk,nk⟩;rw[Pp]at h;let⟨K,j,g,h⟩:=A8 h;let⟨e,a,d⟩:=Jg g;cases j with
  |nil=>cases h
  |cons c v=>
   unfold Po at h;dsimp only at h;split at h;rename_i u;cases h;exact⟨by rw[e,L9 46 u];simp[Bz,D1],a.1,nk,λ_=>⟨a,d,nk,nk⟩⟩;unfold Ua at h;let⟨_,I,f,h⟩:=A8 h;let⟨_,S,o,h⟩:=A8 h;let⟨l,R,E,h⟩:=A8 h;let⟨G,Q,k,h⟩:=A8 h;let⟨_,M,A,h⟩:=A8 h;cases h;have F:=I7 (c:=58) f;have m:=I7 (c:=45) o;let⟨t,B⟩:=dX E;let⟨n,N,D⟩:=Yc (λs x P h=>dX h) _ _ _ _ k;have z:=I7 (c:=46) A;refine⟨by grind[Bz,D1,Bp],a.1,nk,λ_=>⟨a,d,gp,?_⟩⟩;intro y i;obtain rfl|i:=BD.1 i;exact B;exact D y i
def Cr (l:n0):Tx:=l.flatMap λx=>Bz x++[46]
def Ka:∀(n:Nat) (s:Tx) (l:n0) (u:Tx),Cc n s= .got l u->s=Cr l/\u=[]/\Z l<=n/\∀x∈l,Dc x:=by
 intro n;induction n with
 |zero=>
  intro s l u h;cases s with
  |nil=>cases h;simp[Cr]
  |cons b q=>cases h
 |succ n c=>
  intro s l u h;cases s with
  |nil=>cases h;simp[Cr]
  |cons b q=>
   unfold Cc at h;let⟨x,o,j,h⟩:=A8 h;let⟨p,m,g,h⟩:=A8 h;cases h;let⟨f,i⟩:=Yf j;let⟨k,e,t,d⟩:=c _ _ _ g;refine⟨by grind[Cr],e,gp,?_⟩;intro y a;obtain rfl|a:=BD.1 a;exact i;exact d y a
def Kx {b:UInt8}(h:B6 b.toNat):97<=b.toNat/\b.toNat<=122:=by grind[B6]
def kH {b:UInt8}(h:Bs b.toNat\/A6 b.toNat):48<=b.toNat/\b.toNat<=90/\b.toNat≠58:=by grind[Bs,A6]
def I9 {c}:∀(p m:Tx) (d:Bool) (a:Tx),(∀b∈p,b.toNat≠40/\b.toNat≠41/\(b.toNat:Int)≠c)->Cd c (p++m) d a=Cd c m d (a++p):=by
 intro p;induction p with
 |nil=>intro m d a _;simp
 |cons b p f=>
  intro m d a h;let⟨l,j,k⟩:=h b (IL ..);rw[EW,Cd];have g:((b.toNat:Int)==40)=false:=gp
  have e2:((b.toNat:Int)==41)=false:=gp
  have i:((b.toNat:Int)==c)=false:=gp
  simp only[g,e2,i,EI,if_false,false_and];rw[f m d (a++[b]) (λx e=>h x (IM _ e))];simp
def XB {c}:∀(p g:Tx) (a:Tx),(∀b∈p,b.toNat≠41)->Cd c (p++g) true a=Cd c g true (a++p):=by
 intro p;induction p with
 |nil=>intro g a _;simp
 |cons b p d=>
  intro g a h;have f:=h b (IL ..);rw[EW,Cd];have e2:((b.toNat:Int)==41)=false:=gp
  simp only[e2,EI,if_false,ite_self,reduceCtorEq,and_false];rw[d g (a++[b]) (λx e=>h x (IM _ e))];simp
def WY {c}(b d a):Cd c (40::b) d a=Cd c b true (a++[40]):=by grind[Cd]
def yY {c}(a:c≠41)(e d b):Cd c (41::e) d b=Cd c e false (b++[41]):=by grind[Cd]
def RZ {c}(b:c.toNat≠40)(h2:c.toNat≠41)(d a):Cd c.toNat (c::d) false a=a::Cd c.toNat d false []:=by grind[Cd]
def wD (c:Int)(t:Tx):Prop:=t≠[]/\∀b a,Cd c (t++b) false a=Cd c b false (a++t)
def WZ:∀(b:ol) (a:Tx),(∀t∈b,wD 44 t)->a≠[]->Cd 44 (Ch b) false a=a::b:=by
 intro b;induction b with
 |nil=>intro a _ c;simp[Ch,Cd,c]
 |cons t b f=>
  intro a h c;let⟨i,g⟩:=h t (IL ..);have e:Ch (t::b)=44::(t++Ch b):=by simp[Ch]
  rw[e,show (44:Int)=((44:UInt8).toNat:Int)from rfl,RZ nr nr,show ((44:UInt8).toNat:Int)=44 from rfl,g,FE,f t (λx d=>h x (IM _ d)) i]
def oF {a}(h:∀t∈a,wD 44 t):Ix (Bp a) 44=a:=by
 cases a with
 |nil=>simp[Bp,Ix,Cd]
 |cons t a=>
  let⟨d,c⟩:=h t (IL ..);rw[Ix,Bp];rw[c,FE,WZ a t (λx b=>h x (IM _ b)) d]
def qD {t}(h:Mm t):wD 44 t:=by refine⟨h.1,λd a=>I9 _ _ _ _ λb c=>?_⟩;have:=kH (h.2 b c);omega
def xY {a b}(h:b∈Ch a):b=44\/∃t∈a,b∈t:=by grind[Ch]
def xZ {a b}(h:b∈Bp a):b=44\/∃t∈a,b∈t:=by
 cases a with
 |nil=>cases h
 |cons t a=>
  rw[Bp]at h;obtain h|h:=AW.1 h;exact .inr ⟨t,IL ..,h⟩;obtain h|⟨u,c,h⟩:=xY h;exact .inl h;exact .inr ⟨u,IM _ c,h⟩
def oT {a}(h:En a){b}(c:b∈Bp a.A):b.toNat=44\/(48<=b.toNat/\b.toNat<=90/\b.toNat≠58):=by obtain rfl|⟨t,d,c⟩:=xZ c;exact .inl rfl;exact .inr (kH ((h.2.2.2 t d).2 b c))
def oG {c}(e:c=44\/c=46){a}(h:En a)(g f):Cd c (Bh a++g) false f=Cd c g false (f++Bh a):=by rw[Bh];rw[CR,I9 a.B _ _ _ (λb d=>ny (Kx (h.1.2 b d))),EW,WY,CR,XB (Bp a.A) _ _ (λb d=>ny (oT h d))];rw[EW,FE,yY L];simp
def iB {c}(e:c=44\/c=46){a}(h:En a)(g f):Cd c (Cl a++g) false f=Cd c g false (f++Cl a):=by rw[Cl];rw[CR,I9 (if a.nt=true then [33]else []) _ _ _ (λb d=>by split at d<;>simp at d;subst d;simp;omega),oG e h];simp
theorem jG (a):Bh a≠[]:=by rw[Bh];simp
def YB (a):Cl a≠[]:=by grind[Cl,jG]
def yF {a}(h:En a):wD 44 (Cl a):=⟨YB a,λc b=>iB (.inl rfl) h c b⟩
def sL:∀(l:oq) (i c:Tx),(∀a∈l,En a)->Cd 46 (Ch (l.map Cl)++i) false c=Cd 46 i false (c++Ch (l.map Cl)):=by
 intro l;induction l with
 |nil=>intro i c _;simp[Ch]
 |cons a l g=>
  intro i c h;have e:Ch ((a::l).map Cl)=[44]++(Cl a++Ch (l.map Cl)):=by simp[Ch]
  rw[e,CR,I9 [44] _ _ _ (λb d=>jx),CR,iB (.inr rfl) (h a (IL ..)),g _ _ (λx f=>h x (IM _ f))];simp
def XA {x}(h:Dc x)(q p):Cd 46 (Bz x++q) false p=Cd 46 q false (p++Bz x):=by
 let⟨k,n,i⟩:=h;rw[Bz];by_cases c:x.o=true
 rw[if_pos c,I9 (63::x.h.B) _ _ _ (λb a=>by
  obtain rfl|a:=BD.1 a;decide
  have:=Kx (k.2 b a);omega)]
 let⟨j,m,o,d⟩:=i (nn c);rw[if_neg c];rw[D1];rw[CR,oG (.inr rfl) j];cases a:x.A with
 |nil=>simp
 |cons l f=>
  rw[a]at d;rw[if_neg nk];have e:(58::45::Bp ((l::f).map Cl))=[58,45]++(Cl l++Ch (f.map Cl)):=by simp[Bp]
  rw[e,CR,I9 [58,45] _ _ _ (λb a=>by simp at a;rcases a with rfl|rfl<;>decide),CR,iB (.inr rfl) (d l (IL ..)),sL _ _ _ (λx g=>d x (IM _ g))];simp
theorem O3:∀(l:n0),(∀x∈l,Dc x)->Ix (Cr l) 46=l.map Bz:=by
 intro l;induction l with
 |nil=>intro _;simp[Cr,Ix,Cd]
 |cons x l a=>
  intro h;have e:Cr (x::l)=Bz x++(46::Cr l):=by simp[Cr]
  have c:=a λy b=>h y (IM _ b);rw[Ix]at*
  rw[e,XA (h x (IL ..)),show (46:Int)=((46:UInt8).toNat:Int)from rfl,RZ nr nr,show ((46:UInt8).toNat:Int)=46 from rfl,c];simp
theorem Tp {c}:∀(p f:Tx),(∀b∈p,(b.toNat:Int)≠c)->B7 (p++f) c=Z p+B7 f c:=by
 intro p;induction p with
 |nil=>intro f _;simp
 |cons b p a=>
  intro f h;have:=a f λx d=>h x (IM _ d);rw[B7]at*
  have e:((b.toNat:Int)==c)=false:=nn (h b (IL ..));rw[EW,findIdx_cons,e];simp only[cond_false,BQ];omega
theorem eQ {c}(a):B7 (c::a) c.toNat=0:=by grind[B7]
def VQ {c}:B7 [] c=0:=rfl
def L3 {p}(h:Jy p):∃b q,p=b::q/\97<=b.toNat/\b.toNat<=122:=by
 let⟨c,a⟩:=h;cases p with
 |nil=>cases c rfl
 |cons b q=>exact⟨b,q,rfl,Kx (a b (IL ..))⟩
def XG {a}(h:En a):Ps a.nt (Bh a)=a:=by
 have f:B7 (Bh a) 40=Z a.B:=by
  rw[Bh];rw[Tp a.B _ (λb d=>ny (Kx (h.1.2 b d))),show (40:Int)=((40:UInt8).toNat:Int)from rfl,eQ];rfl
 have e:Z (Bh a)=Z a.B+1+Z (Bp a.A)+1:=by grind[Bh]
 rw[Ps];rw[f,if_pos L];have g:((Bh a).drop 0).take (Z a.B-0)=a.B:=by grind[Bh]
 have e2:((Bh a).drop (Z a.B+1)).take (Z (Bh a)-1-(Z a.B+1))=Bp a.A:=by simp_all[Bh,Bp,NG,FE]
 rw[g,e2,oF (λt c=>qD (h.2.2.2 t c))]
def Zm {a}(h:En a):D3 (Cl a)=a:=by
 let⟨b,q,f,i,g⟩:=L3 h.1;have e:=XG h;rw[D3,Cl];cases d:a.nt
 ·have c:Pr ((if false=true then [33]else [])++Bh a)=false:=by grind[Bh,Pr]
  have e2:Jd ((if false=true then [33]else [])++Bh a)=Bh a:=by grind[Jd]
  rw[c,e2,<-d,e]
 have c:Pr ((if true=true then [33]else [])++Bh a):=rfl;have e2:Jd ((if true=true then [33]else [])++Bh a)=Bh a:=by grind[Jd]
 rw[c,e2,<-d,e]
theorem Q4 {a}(h:a.nt=false):Cl a=Bh a:=by grind[Cl]
theorem TP {a}(h:En a):∀b∈Bh a,(b.toNat:Int)≠58:=by intro b c;rw[Bh]at c;obtain c|c:=AW.1 c;have:=Kx (h.1.2 b c);omega;obtain rfl|c:=BD.1 c;decide;obtain c|c:=AW.1 c;have:=oT h c;omega;simp at c;subst c;decide
def Jl {x}(h:Dc x):Ir (Bz x)=x/\Bz x≠[]/\(P5 (Bz x)=false->B7 (Bz x) 58<Z (Bz x)->B7 (Bz x) 58+2<=Z (Bz x)):=by
 let⟨y,u,v⟩:=h;let⟨b,q,C,I,G⟩:=L3 y;rw[Bz];by_cases f:x.o=true;rw[if_pos f];let⟨d,g,E⟩:=u f;have c:P5 (63::x.h.B):=rfl;refine⟨?_,nk,λh=>gp⟩;rw[Ir];rw[if_pos c];rw[rE];let⟨k,⟨n,p,t⟩,s⟩:=x;simp at*
 simp[*];rw[if_neg f];let⟨d,g,E,m⟩:=v (nn f);have c:P5 (D1 x)=false:=by grind[D1,Bh,P5]
 cases K:x.A with
 |nil=>
  have e:D1 x=Bh x.h:=by grind[D1]
  have j:B7 (D1 x) 58=Z (D1 x):=by have:=Tp (Bh x.h) [] (TP d);rw[EJ,VQ]at this;rw[e];omega
  refine⟨?_,e▸jG _,λ_ h=>L⟩;rw[Ir];rw[if_neg (ns c)];rw[T5];rw[j,if_neg L];have e2:((D1 x).drop 0).take (Z (D1 x)-0)=Cl x.h:=by grind[Q4]
  rw[e2,Zm d];let⟨k,A,s⟩:=x;simp at*
  simp[*]
 |cons l F=>
  have e:D1 x=Bh x.h++(58::45::Bp (x.A.map Cl)):=by grind[D1]
  have j:B7 (D1 x) 58=Z (Bh x.h):=by grind[Tp,Bh,Bp,Cl,TP,eQ]
  have z:Z (D1 x)=Z (Bh x.h)+2+Z (Bp (x.A.map Cl)):=gp
  refine⟨?_,gp,λ_ _=>L⟩;rw[Ir];rw[if_neg (ns c)];rw[T5];rw[j,if_pos L];have e2:((D1 x).drop 0).take (Z (Bh x.h)-0)=Cl x.h:=by grind[Q4]
  have B:((D1 x).drop (Z (Bh x.h)+2)).take (Z (D1 x)-(Z (Bh x.h)+2))=Bp (x.A.map Cl):=jx
  rw[e2,B,Zm d,oF (λt o=>by
   rw[AN]at o;obtain⟨a,i,rfl⟩:=o
   exact yF (m a i))]
  have D:(x.A.map Cl).map D3=x.A:=by
   rw[BH]
   conv=>rhs;rw[<-IE x.A]
   exact CG λa i=>Zm (m a i)
  rw[D];let⟨k,A,s⟩:=x;simp at*
  simp[*]
def Ep {s l o}(k:Z s<=1000)(h:Cc 16 s= .got l o):nV s/\Bl s=l/\Z l<=16/\∀x∈l,Dc x:=by
 let⟨e,m,f,a⟩:=Ka _ _ _ _ h;have b:=O3 l a;refine⟨⟨?_,?_⟩,?_,f,a⟩;rw[e,b];simpa using f;intro t d;have j:=L6 d;rw[e,b,AN]at d;obtain⟨x,c,rfl⟩:=d;let⟨n,g,i⟩:=Jl (a x c);exact⟨L,g,i⟩;rw[Bl];rw[e,b,BH]
 conv=>rhs;rw[<-IE l]
 exact CG λx c=>(Jl (a x c)).1
inductive Way {α:Type}(E:α->α->Prop):α->α->Prop
 |one {a b:α}:E a b->Way E a b
 |more {a b c:α}:E a b->Way E b c->Way E a c
def Way.join {α:Type}{E:α->α->Prop}{a b c}(h:Way E a b)(k:Way E b c):Way E a c:=by
 induction h with
 |one e=>exact .more e k
 |more e _ d=>exact .more e (d k)
def NA (n:Nat)(M:Nat->Nat->Bool):Prop:=∀a b,M a b->a<n/\b<n
def jm {n M}(A:NA n M):∀(m:Nat),m<=n->NA n (F9 n M m)/\(∀a b,M a b->F9 n M m a b)/\(∀a b,F9 n M m a b->Way (λa b=>M a b) a b)/\
  (∀a b c,b<m->F9 n M m a b->F9 n M m b c->F9 n M m a c):=by
 intro m;induction m with
 |zero=>intro _;exact⟨A,λ_ _ h=>h,λ_ _ h=>.one h,λ_ _ _ h=>L⟩
 |succ m q=>
  intro x;obtain⟨j,s,l,o⟩:=q L;have e:∀a b,F9 n M (m+1) a b↔F9 n M m a b\/(F9 n M m a m/\F9 n M m m b):=by
   intro a b;show NV n (F9 n M m) m a b↔_;rw[NV,fw];split;simp;rename_i u;constructor;exact .inl;rintro (h|⟨d,g⟩);exact h;cases u ⟨(j _ _ d).1,(j _ _ g).2⟩
  refine⟨?_,?_,?_,?_⟩;intro a b h;obtain h|⟨d,g⟩:=(e a b).1 h;exact j _ _ h;exact⟨(j _ _ d).1,(j _ _ g).2⟩;intro a b h;exact (e a b).2 (.inl (s _ _ h));intro a b h;obtain h|⟨d,g⟩:=(e a b).1 h;exact l _ _ h;exact (l _ _ d).join (l _ _ g);intro a b c g f i;rw[e]at f i⊢;by_cases v:b=m;subst v;have t:F9 n M b a b:=gp
  have p:F9 n M b b c:=gp
  exact .inr ⟨t,p⟩;have k:b<m:=L;rcases f with f|⟨d,af⟩<;>obtain i|⟨z,y⟩:=i;exact .inl (o _ _ _ k f i);exact .inr ⟨o _ _ _ k f z,y⟩;exact .inr ⟨d,o _ _ _ k af i⟩;exact .inr ⟨d,y⟩
def gR {n M}(d:NA n M)(a b):F9 n M n a b↔Way (λa b=>M a b) a b:=by
 let⟨j,c,g,i⟩:=jm d n (AU _);refine⟨g a b,λh=>?_⟩;induction h with
 |one e=>exact c _ _ e
 |more e _ f=>exact i _ _ _ (d _ _ e).2 (c _ _ e) f
theorem iY (l i k):aK l i k↔Way (λa b=>Ny l a b) i k:=by
 have c:∀a b,Ny l a b->a<Z l/\b<Z l:=by grind[Ny]
 have e:(λa b=>if a<Z l/\b<Z l then Ny l a b else false)=Ny l:=gp
 rw[aK];rw[e];exact gR c i k
def Gs (l:n0)(p q:Tx):Prop:=∃x∈l,x.h.B=p/\∃a∈x.A,a.B=q
def CO {l i k}:Ny l i k↔∃x y,l[i]?=some x/\l[k]?=some y/\y.o=false/\∃a∈x.A,a.B=y.h.B:=by grind[Ny]
def wL {l i k}(h:Way (λa b=>Ny l a b) i k):∃x y,l[i]?=some x/\l[k]?=some y/\y.o=false/\Way (Gs l) x.h.B y.h.B:=by
 induction h with
 |one e=>
  let⟨x,y,c,d,m,a,f,g⟩:=CO.1 e;exact⟨x,y,c,d,m,.one ⟨x,AY c,rfl,a,f,g⟩⟩
 |more e _ n=>
  let⟨x,y,c,d,m,a,f,g⟩:=CO.1 e;let⟨s,z,j,o,p,q⟩:=n;rw[d]at j;cases j;exact⟨x,z,c,o,p,.more ⟨x,AY c,rfl,a,f,g⟩ q⟩
def wM {l}(E:∀x∈l,x.o->x.A=[]){p q}(h:Way (Gs l) p q):∀(k:Nat) (y:AB),l[k]?=some y->y.o=false->y.h.B=q->∃(i:Nat) (x:AB),l[i]?=some x/\x.h.B=p/\Way (λa b=>Ny l a b) i k:=by
 induction h with
 |one e=>
  intro k y o t m;let⟨x,n,s,a,c,I⟩:=e;let⟨i,d⟩:=CL n;exact⟨i,x,d,s,.one (CO.2 ⟨x,y,d,o,t,a,c,gp⟩)⟩
 |more e _ B=>
  intro k y o t m;let⟨x,n,s,a,c,I⟩:=e;let⟨i,d⟩:=CL n;let⟨j,z,g,C,v⟩:=B k y o t m;have D:z.o=false:=by
   have F:z.A≠[]:=by
    cases v with
    |one e=>
     let⟨A,_,f,_,_,a,c,_⟩:=CO.1 e;rw[g]at f;cases f;intro u;rw[u]at c;cases c
    |more e _=>
     let⟨A,_,f,_,_,a,c,_⟩:=CO.1 e;rw[g]at f;cases f;intro u;rw[u]at c;cases c
   cases G:z.o
   ·rfl
   cases F (E z (AY g) G)
  exact⟨i,x,d,s,.more (CO.2 ⟨x,z,d,g,D,a,c,gp⟩) v⟩
def Ks {l}(j:∀x∈l,x.o->x.A=[]){p q}(g:∃y∈l,y.o=false/\y.h.B=q):J2 l p q↔Way (Gs l) p q:=by rw[J2];constructor;intro h;rw[CU]at h;obtain⟨i,-,h⟩:=h;rw[CU]at h;obtain⟨k,-,h⟩:=h;rw[rZ]at h;simp only[BM,DO]at h;let⟨⟨e,a⟩,b⟩:=h;let⟨x,y,m,c,_,n⟩:=wL ((iY l i k).1 e);rw[Kl]at a b;rw[m]at a;rw[c]at b;rw[<-a,<-b];exact n;intro h;let⟨y,c,e,a⟩:=g;let⟨k,d⟩:=CL c;let⟨i,x,f,b,o⟩:=wM j h k y d e a;rw[CU];refine⟨i,nn ((BA.1 f).1),?_⟩;rw[CU];refine⟨k,nn ((BA.1 d).1),?_⟩;unfold rZ Kl;rw[(iY l i k).2 o,f,d];simp[a,b]
def Rw (c b):ni 214 [sc (.int .u8 c)] b λx σ'=>x=my (B6 c)/\σ'=b:=by
 apply wl func214;refine m6 ?_ ?_<;>intro h a
 all_goals exact⟨_,rfl,by grind[B6]⟩
def Hf (c b):ni 248 [sc (.int .u8 c)] b λx σ'=>x=my (Bs c)/\σ'=b:=by
 apply wl func248;refine m6 ?_ ?_<;>intro h a
 all_goals exact⟨_,rfl,by grind[Bs]⟩
def He (c b):ni 249 [sc (.int .u8 c)] b λx σ'=>x=my (A6 c)/\σ'=b:=by
 apply wl func249;refine m6 ?_ ?_<;>intro h a
 all_goals exact⟨_,rfl,by grind[A6]⟩
def dO (t:Tx)(k:Nat)(a:AV):oh:=[O t,Y k,a]
def takeB (t:Tx)(k:Nat)(c:Int):Bool:=match t[k]? with|some b=>(b.toNat:Int)==c|none=>false
def takeN (t:Tx)(k:Nat)(c:Int):Nat:=if takeB t k c=true then k+1 else k
def wY (t k o n c)(l:Z t<=1000)(g:k<=Z t)(m)(f:m.C o=dO t k n)(j:o<m.B):ni 132 [ptr o 0,sc (.int .u8 c)] m λx σ'=>x=my (takeB t k c)/\AQ o m σ'/\σ'.C o=dO t (takeN t k c) n:=by
 rw[dO]at*
 apply wl func132;refine X ?_;apply Ax Ag (λ_=>True) [22] [0,1,2,3,4,5,6,7,8,9,10,11,12,13,14,15,16,17,18,19,20,21] [22] AH (λ_ _ _ h=>h);intro yb ya;by_cases e:k<Z t;have d:=AK e;generalize t[k]=b at d;refine Z3 ?_;refine m6 ?_ ?_<;>intro h i;have a:takeB t k c=false:=by grind[takeB]
 exact⟨_,rfl,gp,AQ.refl _ _,by grind[takeN]⟩;have a:takeB t k c:=by grind[takeB]
 exact⟨_,rfl,gp,(AQ.refl _ _).put _,by grind[takeN]⟩;have d:t[k]?=none:=gp
 refine X ?_;have a:takeB t k c=false:=by grind[takeB]
 exact⟨_,rfl,gp,AQ.refl _ _,by grind[takeN]⟩
def Pk (t s:Tx)(a:AV):oh:=dO t (Z t-Z s) a
def Rc {t s:Tx}(h:s<:+t):t[Z t-Z s]?=s.head?:=by obtain⟨p,rfl⟩:=h;rw[AX,Nat.add_sub_cancel,JY (AU _),GX];cases s<;>rfl
def S5 {t s:Tx}{b}(h:(b::s)<:+t):s<:+t:=(suffix_cons b s).trans h
def Je {t s:Tx}(h:s<:+t):Z s<=Z t:=h.length_le
def S4 (t s o v c)(m:Z t<=1000)(g:s<:+t)(u)(l:u.C o=Pk t s v)(n:o<u.B):
  ni 132 [ptr o 0,sc (.int .u8 c)] u λx σ'=>AQ o u σ'/\match A5 c s with
   |.got _ q=>x=my true/\σ'.C o=Pk t q v/\q<:+t
   |.bad e=>x=my false/\σ'.C o=Pk t s v/\e=s:=by
 have p:=Je g;refine AF.mono (wY t _ o v c m L u l n) ?_;rintro x σ' ⟨rfl,k,f⟩;refine⟨k,?_⟩;have i:=Rc g;cases s with
 |nil=>
  have a:takeB t (Z t-Z ([]:Tx)) c=false:=by grind[takeB]
  refine⟨gp,?_,rfl⟩;rw[f,takeN,a];rfl
 |cons b q=>
  have a:takeB t (Z t-Z (b::q)) c=((b.toNat:Int)==c):=by grind[takeB]
  rw[A5];by_cases d:((b.toNat:Int)==c)=true;rw[d]at a;simp only[d,if_true];refine⟨gp,?_,S5 g⟩;rw[f,takeN,a,Pk];simp only[if_true,BQ]at*
  rw[show Z t-(Z q+1)+1=Z t-Z q by omega];have j:((b.toNat:Int)==c)=false:=nn d;rw[j]at a;simp only[j,EI,if_false];refine⟨gp,?_,trivial⟩;rw[f,takeN,a];rfl
def Iw (a:Tx):Int:=a.foldl (λv b=>v*10+((b.toNat:Int)-48)) 0
def Oo (a b):Iw (a++[b])=Iw a*10+((b.toNat:Int)-48):=by simp[Iw]
def NB (s a q:Tx):Prop:=Z a<=3/\Ay A6 3 s=(a++(Ay A6 (3-Z a) q).1,(Ay A6 (3-Z a) q).2)/\0<=Iw a/\(Z a=0->Iw a=0)/\(Z a=1->Iw a<=9)/\(Z a=2->Iw a<=99)
def WW (s):NB s [] s:=⟨nk,nk,by simp[Iw],by simp[Iw],nk,nk⟩
def yW {s a q b}(h:NB s a (b::q))(k:Z a<3)(d:A6 b.toNat):NB s (a++[b]) q:=by
 let⟨n,f,m,i,g,l⟩:=h;have j:48<=b.toNat/\b.toNat<=57:=by grind[A6]
 have e:3-Z a=(3-Z (a++[b]))+1:=gp
 rw[e,Ay,if_pos d]at f;refine⟨gp,gp,?_,nk,?_,?_⟩;rw[Oo];omega;intro c;rw[Oo];have:=i (gp);omega;intro c;rw[Oo];have:=g (gp);omega
def Y9 {s a q}(h:NB s a q)(c:Z a=3\/q=[]\/∃b g,q=b::g/\A6 b.toNat=false):Ay A6 3 s=(a,q):=by obtain⟨f,d,-⟩:=h;rw[d];obtain c|rfl|⟨b,g,rfl,i⟩:=c;rw[c];simp[Ay];cases e:3-Z a<;>simp[Ay];cases e:3-Z a<;>simp[Ay,i]
def Ur (t s o Q)(K:Z t<=1000)(y:s<:+t)(z)(A:z.C o=Pk t s Q)(F:o<z.B)(l:∀b g,s=b::g->((b.toNat:Int)==48)=false):
  ni 250 [ptr o 0] z λx σ'=>AQ o z σ'/\∃q,σ'.C o=Pk t q Q/\q<:+t/\q=(Ay A6 3 s).2/\x=Y (Iw (Ay A6 3 s).1):=by
 have E:A5 48 s= .bad s:=by
  cases s with
  |nil=>rfl
  |cons b g=>rw[A5];simp only[l b g rfl];simp
 have i:=S4 t s o Q 48 K y z A F;rw[E]at i;apply wl func250;refine m0 ?_;intro yb ya;apply Xi (i);rintro _ _ ⟨k,rfl,n,-⟩;refine X ?_;rename_i a5;have v:=BZ F k.B
 refine Ae (λm f σ'=>∃(q a:Tx),m=3-Z a/\f 0=ptr o 0/\f 3=Y (Iw a)/\f 4=Y (Z a)/\AQ o z σ'/\σ'.C o=Pk t q Q/\o<σ'.B/\q<:+t/\V (NB s a q)) 3
  ⟨s,[],rfl,rfl,rfl,rfl,k,n,v,y,WW s⟩ ?_
 rintro m f σ' ⟨q,a,rfl,a1,P,a4,S,j,a3,d,e⟩;have C:=Je d;have G:=Rc d;have R:=e.o;obtain⟨N,-,a0,a6,B,D⟩:=R;rw[Pk,dO]at j;refine X ?_;apply Ax Ag (λ_=>True) [25] [0,1,2,3,4,5,6,7,8,9,10,11,12,13,14,15,16,17,18,19,20,21,22,23] [24,25] AH (λ_ _ _ h=>h);intro yb ya;cases q with
 |nil=>
  simp only[CQ,PH]at j G C;refine X ?_
  all_goals
   have c:=Y9 e.o (.inr (.inl rfl));exact⟨_,rfl,[],by simp[Pk,dO],d,gp,gp⟩
 |cons b g=>
  simp only[BQ,head?_cons]at j G C;have I:=S5 d;refine Z3 ?_;have p:A6 b.toNat->48<=(b.toNat:Int)/\(b.toNat:Int)<=57:=λh=>by grind[A6]
  repeat' first|refine Z1 ?_|refine Z8 λyb ya=>?_|refine Z4 ?_;clear ya yb|refine Z2 ?_ ?_<;>intro h a2<;>try exact Xp|refine Z5 ?_;apply Xi (He _ _);rintro _ _ ⟨rfl,rfl⟩|refine Z3 ?_|exact Zt|apply ya.o;clear ya yb
  all_goals
   first
   |(have c:=Y9 e.o (.inr (.inr ⟨b,g,rfl,nu⟩))
     exact⟨_,rfl,b::g,by simp[Pk,dO],d,gp,gp⟩)
   |(have c:=Y9 e.o (.inl L)
     exact⟨_,rfl,b::g,by simp[Pk,dO],d,gp,gp⟩)
   |skip
  have u:A6 b.toNat:=nu;have p:=p u;have M:Z a<3:=L;have U:Iw a<=99:=gp
  apply Ax Ag (λ_=>True) [14] [0,1,2,3,4,5,6,7,8,9,10,11,12,13] [14] AH (λ_ _ _ h=>h);intro yb ya;refine X ?_;have T:IntKind.i64.wrap (Iw a*10+IntKind.i64.wrap (IntKind.u8.wrap ((b.toNat:Int)-48)))=Iw (a++[b]):=by rw[Abs.u8w L L,show IntKind.i64.wrap ((b.toNat:Int)-48)=(b.toNat:Int)-48 from Abs.i64w L L,Abs.i64w L L,Oo]
  rw[T];refine⟨3-Z (a++[b]),gp,g,a++[b],rfl,rfl,nk,S.put _,?_,I,yW e.o M u⟩;rw[Pk,dO];rw[show ((Z t-(Z g+1):Nat):Int)+1=((Z t-Z g:Nat):Int)by omega]
variable {Bd:Nat}
namespace Rd
def ok {α:Type}:Rd α->Bool
 |.bad _=>false
 |.got _ _=>true
def rest {α:Type}:Rd α->Tx
 |.bad e=>e
 |.got _ a=>a
def Val {α:Type}:Rd α->(α->Prop)->Prop
 |.bad _,_=>True
 |.got a _,P=>P a
def ok_true {α:Type}{x:Rd α}(h:x.ok):∃a b,x= .got a b:=by
 cases x with
 |bad e=>cases h
 |got a b=>exact⟨a,b,rfl⟩
def ok_false {α:Type}{x:Rd α}(h:x.ok=false):∃e,x= .bad e:=by
 cases x with
 |bad e=>exact⟨e,rfl⟩
 |got a b=>cases h
def Gy {α b c:Type}(x:Rd α)(f)(g:b->Tx->Rd c):(x.bnd f).bnd g=x.bnd λa d=>(f a d).bnd g:=by cases x<;>rfl
def Val.mono {α:Type}{x:Rd α}{P Q}(h:Val x P)(k:∀a,P a->Q a):Val x Q:=by
 cases x with
 |bad e=>trivial
 |got a b=>exact k a h
end Rd
def Uu {α:Type}(f:Tx->Rd α)(n:Nat)(s:Tx):Rd (List α):=(f s).bnd λx b=>(D9 f n b).bnd λa b=>.got (x::a) b
def CZ {α:Type}(f:Tx->Rd α)(n:Nat)(s:Tx)(xs:List α)(q:Tx):Prop:=
 Z xs<=n+1/\0<Z xs/\Uu f n s=(D9 f (n+1-Z xs) q).bnd λa b=>.got (xs++a) b
def CZ.first {α:Type}{f:Tx->Rd α}{n s a x}(h:f s= .got x a):CZ f n s [x] a:=by refine⟨nk,nk,?_⟩;rw[Uu];rw[h];simp only[Rd.bnd,length_singleton,Nat.add_sub_cancel,singleton_append]
def CZ.none {α:Type}{f:Tx->Rd α}{n s e}(h:f s= .bad e):Uu f n s= .bad e:=by rw[Uu];rw[h];rfl
def CZ.full {α:Type}{f:Tx->Rd α}{n s q xs}(h:CZ f n s xs q)(a:n+1<=Z xs):Uu f n s= .got xs q:=by rw[h.2.2,show n+1-Z xs=0 by omega];simp[D9,Rd.bnd]
def CZ.stop {α:Type}{f:Tx->Rd α}{n s q xs}(h:CZ f n s xs q)(a:(A5 44 q).ok=false):Uu f n s= .got xs q:=by
 rw[h.2.2];cases e:n+1-Z xs with
 |zero=>simp[D9,Rd.bnd]
 |succ k=>
  cases q with
  |nil=>simp[D9,Rd.bnd]
  |cons b g=>
   unfold A5 at a;dsimp only at a;have d:((b.toNat:Int)==44)=false:=by by_cases c:((b.toNat:Int)==44)=true;rw[if_pos c]at a;cases a;simpa using c
   rw[D9];rw[if_neg (gp)];simp[Rd.bnd]
def CZ.fail {α:Type}{f:Tx->Rd α}{n s q j e xs u}(h:CZ f n s xs q)(i:Z xs<n+1)(a:A5 44 q= .got u j)(d:f j= .bad e):Uu f n s= .bad e:=by
 rw[h.2.2];let⟨k,g⟩:∃k,n+1-Z xs=k+1:=⟨n-Z xs,gp⟩;rw[g];cases q with
 |nil=>cases a
 |cons b q=>
  unfold A5 at a;dsimp only at a;by_cases c:((b.toNat:Int)==44)=true;rw[if_pos c]at a;cases a;rw[D9,if_pos c,d];rfl;rw[if_neg c]at a;cases a
def CZ.next {α:Type}{f:Tx->Rd α}{n s q j d xs u x}(h:CZ f n s xs q)(i:Z xs<n+1)(a:A5 44 q= .got u j)(e:f j= .got x d):CZ f n s (xs++[x]) d:=by
 refine⟨gp,nk,?_⟩;rw[h.2.2];let⟨k,g⟩:∃k,n+1-Z xs=k+1:=⟨n-Z xs,gp⟩;rw[g,show n+1-Z (xs++[x])=k by simp;omega];cases q with
 |nil=>cases a
 |cons b q=>
  unfold A5 at a;dsimp only at a;by_cases c:((b.toNat:Int)==44)=true;rw[if_pos c]at a;cases a;rw[D9,if_pos c,e];simp only[Rd.bnd];cases D9 f k d<;>simp[Rd.bnd];rw[if_neg c]at a;cases a
structure An (o id:Nat)(σ σ':St):Prop where
 B:σ.B<=σ'.B
 C:∀p,p<σ.B->p≠o->σ'.C p=σ.C p
 ver:∀p,p<σ.B->p≠o->σ'.ver p=σ.ver p
 D:σ.D<=σ'.D
 top:∀k,k<σ.D->k+2≠id->σ'.top k=σ.top k
def An.refl (o id a):An o id a a:=⟨Nat.le_refl _,λ_ _ _=>rfl,λ_ _ _=>rfl,Nat.le_refl _,λ_ _ _=>rfl⟩
def AQ.kr {o a σ'}(h:AQ o a σ')(id):An o id a σ':=⟨h.B,h.C,h.ver,h.D,λk b _=>h.top k b⟩
def W.kr {b σ'}(h:W b σ')(o id):An o id b σ':=⟨h.B,λp a _=>h.C p a,λp a _=>h.ver p a,h.D,λk c _=>h.top k c⟩
def An.trans {o id id' a b c}(h:An o id a b)(g:id'=id\/a.D+2<=id')(k:An o id' b c):An o id a c:=
 ⟨Nat.le_trans h.B k.B,λp e d=>(k.C p (Nat.lt_of_lt_of_le e h.B) d).trans (h.C p e d),λp e d=>(k.ver p (Nat.lt_of_lt_of_le e h.B) d).trans (h.ver p e d),
  Nat.le_trans h.D k.D,λj f d=>(k.top j (Nat.lt_of_lt_of_le f h.D) (gp)).trans (h.top j f d)⟩
def An.put {o id c σ'}(h:An o id c σ')(cs):An o id c (σ'.put o cs):=
 ⟨h.B,λp b a=>by simp[St.put,a];exact h.C p b a,λp b a=>by simp[St.put,a];exact h.ver p b a,h.D,h.top⟩
def An.lay {o id a b}(h:An o id a b)(n):An o id a (b.lay n):=by have:=h.D;exact⟨h.B,h.C,h.ver,by grind[St.lay],λk c d=>by simp[St.lay];rw[if_neg (gp)];exact h.top k c d⟩
def An.new {o id a b}(h:An o id a b)(cs):An o id a (b.new cs):=by have:=h.B;exact⟨by grind[St.new],λp c d=>by simp[St.new];rw[if_neg (gp)];exact h.C p c d,h.ver,h.D,h.top⟩
def An.raise {o id a b}(h:An o id a b){k}(e:a.D<=k\/k+2=id)(n):An o id a (b.raise k n):=
 ⟨h.B,h.C,h.ver,h.D,λj d c=>by simp[St.raise];rw[if_neg (gp)];exact h.top j d c⟩
def An.keep {o id a b c}(h:W a b)(k:An o id b c)(f:a.B<=o)(g:id<2\/a.D+2<=id):W a c:=
 ⟨Nat.le_trans h.B k.B,λp d=>(k.C p (Nat.lt_of_lt_of_le d h.B) (gp)).trans (h.C p d),λp d=>(k.ver p (Nat.lt_of_lt_of_le d h.B) (gp)).trans (h.ver p d),
  Nat.le_trans h.D k.D,λj e=>(k.top j (Nat.lt_of_lt_of_le e h.D) (gp)).trans (h.top j e)⟩
def DL (a:St)(id n:Nat):Prop:=(id=1/\n=0)\/∃k,id=k+2/\k<a.D/\a.top k=n/\0<n
def DL.keepX {o a σ' id n}(h:DL a id n)(k:AQ o a σ'):DL σ' id n:=by obtain h|⟨j,c,b,d,e⟩:=h;exact .inl h;exact .inr ⟨j,c,Nat.lt_of_lt_of_le b k.D,(k.top j b).trans d,e⟩
def J.keepR {o idn σ0 a σ' id n}(h:J σ0 a id n)(k:An o idn a σ')(b:id=1\/id≠idn):J σ0 σ' id n:=by obtain h|⟨j,d,e,c,f,g⟩:=h;exact .inl h;exact .inr ⟨j,d,e,Nat.lt_of_lt_of_le c k.D,(k.top j c (gp)).trans f,g⟩
def DL.keepR {o idn a σ' id n}(h:DL a id n)(k:An o idn a σ')(b:id=1\/id≠idn):DL σ' id n:=by obtain h|⟨j,d,c,e,f⟩:=h;exact .inl h;exact .inr ⟨j,d,Nat.lt_of_lt_of_le c k.D,(k.top j c (gp)).trans e,f⟩
theorem Ve {a:St}{n k}(h:k<a.D):(a.lay n).top k=a.top k:=by grind[St.lay]
theorem xH {a:St}{n k j}(h:j≠k):(a.raise k n).top j=a.top j:=by grind[St.raise]
def Tw {P t z b q σ0 a o idn id i n m c xs d K}(y:P0 P t=some (z,b,q))(f:An o idn σ0 a)(s:J σ0 a id n)
  (u:0<z) (e:Z q=z) (l:Z xs=n*z) (x:Z d=m*z) (A:d.all flat) (p:0<m) (B:(n+m)*b<=140737488355328) (v:n+m<=1099511627776)
  (h:∀id' σ',J σ0 σ' id' (n+m)->An o idn σ0 σ'->σ'.C=a.C->σ'.B=a.B->σ'.ver=a.ver->a.D<σ'.D->(∀k,k<a.D->k+2≠id->σ'.top k=a.top k)->(id'=id\/a.D+2<=id')->K (sl id' (n+m) (xs++d)) σ'):Jx P t t (sl id n xs) (sl i m d) (a.lay c) K:=by
 unfold Jx iK;left;simp only[y];rw[if_pos ⟨trivial,u,e,l,x,A,p,B,v⟩];obtain⟨rfl,rfl⟩|⟨k,rfl,C,I,M,F⟩:=s;cases eq_nil_of_length_eq_zero (nn l);have E:=f.D
 have:=h ((a.lay c).D+2) ((a.lay c).lay m) (by rw[Nat.zero_add];exact .inr ⟨(a.lay c).D,rfl,by grind[St.lay],by simp[St.lay],by simp[St.lay],p⟩) ((f.lay c).lay m) rfl rfl rfl (by grind[St.lay])
  (λj g _=>by grind[Ve,La]) (by grind[La])
 simpa using this;have G:(a.lay c).top k=n:=by grind[St.lay]
 simp only;rw[if_pos ⟨G,F⟩]
 exact h (k+2) _ (.inr ⟨k,rfl,C,by grind[St.raise,St.lay],by simp[St.raise],gp⟩) ((f.lay c).raise (.inl C) _) rfl rfl rfl (by simp[St.raise,St.lay])
  (λj g D=>by grind[xH,Ve]) (.inl rfl)
def tA {P t z b j}{σ0 a:St}{o id f n m c xs d K}(v:P0 P t=some (z,b,j))(q:DL a id n)
  (B:0<z) (e:Z j=z) (g:Z xs=n*z) (u:Z d=m*z) (x:d.all flat) (i:0<m) (y:(n+m)*b<=140737488355328) (s:n+m<=1099511627776)
  (h:∀id' σ',DL σ' id' (n+m)->An o id a σ'->σ'.C=a.C->σ'.B=a.B->σ'.ver=a.ver->(id'=id\/a.D+2<=id')->K (sl id' (n+m) (xs++d)) σ'):Jx P t t (sl id n xs) (sl f m d) (a.lay c) K:=by
 unfold Jx iK;left;simp only[v];rw[if_pos ⟨trivial,B,e,g,u,x,i,y,s⟩];have l:=An.refl o id a;obtain⟨rfl,rfl⟩|⟨k,rfl,C,D,A⟩:=q;cases eq_nil_of_length_eq_zero (nn g);have:=h ((a.lay c).D+2) ((a.lay c).lay m) (by rw[Nat.zero_add];exact .inr ⟨(a.lay c).D,rfl,by simp[St.lay],by simp[St.lay],i⟩) ((l.lay c).lay m) rfl rfl rfl (by grind[La]);simpa using this;have p:(a.lay c).top k=n:=by grind[St.lay]
 simp only;rw[if_pos ⟨p,A⟩];exact h (k+2) _ (.inr ⟨k,rfl,by grind[St.raise,St.lay],by simp[St.raise],gp⟩) ((l.lay c).raise (.inr rfl) _) rfl rfl rfl (.inl rfl)
structure RS (Bd:Nat)(t:Tx)(o:Nat)(N:ol)(id:Nat)(s:Tx)(σ:St):Prop where
 C:σ.C o=Pk t s (lw id N)
 lt:o<σ.B
 own:DL σ id (Z N)
 suf:s<:+t
 len:Z N+Z s<=Bd+Z t/\Bd<=1000
structure Rs (o:Nat)(σ:St)(id:Nat)(σ':St)(id':Nat):Prop where
 keep:An o id σ σ'
 nid:id'=id\/σ.D+2<=id'
def Rs.refl (o a id):Rs o a id a id:=⟨An.refl _ _ _,.inl rfl⟩
def Rs.trans {o a b c i j k}(h:Rs o a i b j)(g:Rs o b j c k):Rs o a i c k:=
 ⟨h.keep.trans h.nid g.keep,by have:=h.keep.D;rcases h.nid with e|e<;>rcases g.nid with d|d<;>omega⟩
def Rs.ofX {o a b i}(h:AQ o a b):Rs o a i b i:=⟨h.kr i,.inl rfl⟩
def RS.stepX {t o N id s e a σ'}(h:RS Bd t o N id s a)(k:AQ o a σ')(b:σ'.C o=Pk t e (lw id N))(c:e<:+t)(d:Z e<=Z s):RS Bd t o N id e σ':=
 ⟨b,Nat.lt_of_lt_of_le h.lt k.B,h.own.keepX k,c,ny h.len⟩
def rC (c s):(A5 c s).rest<:+s:=by
 cases s with
 |nil=>exact suffix_refl _
 |cons b a=>
  unfold A5;dsimp only;split;exact suffix_cons b a;exact suffix_refl _
def Kf {t o N id s c b}(l:Z t<=1000)(h:RS Bd t o N id s b):
  ni 132 [ptr o 0,sc (.int .u8 c)] b λx σ'=>x=my ((A5 c s).ok)/\AQ o b σ'/\RS Bd t o N id (A5 c s).rest σ':=by
 apply AF.mono (S4 t s o _ c l h.suf b h.C h.lt);rintro x σ' ⟨a,g⟩;have d:=rC c s;have f:=d.length_le;have i:=d.trans h.suf;cases k:A5 c s with
 |bad e=>
  rw[k]at g d f i;obtain⟨rfl,j,rfl⟩:=g;exact⟨rfl,a,h.stepX a j i f⟩
 |got u m=>
  rw[k]at g d f i;obtain⟨rfl,j,-⟩:=g;exact⟨rfl,a,h.stepX a j i f⟩
variable {Bd:Nat}
def AQ.new {o a σ'}(h:AQ o a σ')(cs):AQ o a (σ'.new cs):=by have:=h.B;exact⟨by grind[St.new],λp c b=>by simp[St.new];rw[if_neg (gp)];exact h.C p c b,h.ver,h.D,h.top⟩
def AQ.putN {o p b σ'}(h:AQ o b σ')(d:b.B<=p)(cs):AQ o b (σ'.put p cs):=
 ⟨h.B,λq a c=>by simp[St.put];rw[if_neg (gp)];exact h.C q a c,λq a c=>by simp[St.put];rw[if_neg (gp)];exact h.ver q a c,h.D,h.top⟩
def AQ.lay {o a b}(h:AQ o a b)(n):AQ o a (b.lay n):=by have:=h.D;exact⟨h.B,h.C,h.ver,by grind[St.lay],λk c=>by simp[St.lay];rw[if_neg (gp)];exact h.top k c⟩
def Zs {p:Prop}(h:p:=by repeat (first|exact AQ.refl _ _|(with_reducible assumption)|(with_reducible apply AQ.putN;rotate_left;(first|omega|(simp only[Aa,Ac,Az,H6]at*;omega)))|(with_reducible apply AQ.new)|(with_reducible apply AQ.lay)|(with_reducible refine AQ.trans ?_ nu))):p:=h
def Aq:Tx->Bool×Int
 |[]=>(false,0)
 |b::a=>if Bs b.toNat=true then (true,(b.toNat:Int)-65)else (false,Iw (b::a))
theorem Et {b a}(h:Bs b.toNat):Aq (b::a)=(true,(b.toNat:Int)-65):=by grind[Aq]
def Nw {b a}(h:Bs b.toNat=false):Aq (b::a)=(false,Iw (b::a)):=by grind[Aq]
def T4 (x:Tx):oh:=[my ((Aq x).1),Y (Aq x).2]
def A0 (a:ol):oh:=a.flatMap T4
def Fh (ts):Z (A0 ts)=Z ts*2:=by
 induction ts with
 |nil=>rfl
 |cons a l b=>rw[A0]at*;rw[flatMap_cons,length_append,b];simp[T4];omega
def kQ (ts x):A0 (ts++[x])=A0 ts++T4 x:=by simp[A0]
def mI (p n s):(Ay p n s).2<:+s:=⟨(Ay p n s).1,(Ek p n s).1.symm⟩
def Yb (s):(C0 s).rest<:+s:=by
 cases s with
 |nil=>exact suffix_refl _
 |cons b a=>
  unfold C0;dsimp only;split;exact suffix_cons b a;split;exact suffix_cons b a;split;exact (mI A6 2 a).trans (suffix_cons b a);exact suffix_refl _
def aQ (t l b o n)(k:Z t<=1000)(j:(b::l)<:+t)(m)(f:m.C o=Pk t (b::l) n)(i:o<m.B)(c:((b.toNat:Int)==48)):
  ni 250 [ptr o 0] m λx σ'=>AQ o m σ'/\σ'.C o=Pk t l n/\x=Y 0:=by
 have g:A5 48 (b::l)= .got () l:=by grind[A5]
 have e:=S4 t (b::l) o n 48 k j m f i;rw[g]at e;apply wl func250;refine m0 ?_;intro yb ya;apply Xi (e);rintro _ _ ⟨a,rfl,d,-⟩;refine X ?_;grind
def W6 {t o N id s a}(Q:Z t<=1000)(P:RS Bd t o N id s a):
  ni 216 [ptr o 0] a λx σ'=>∃v k,x=tp [ag [my v,Y k],my ((C0 s).ok)]/\AQ o a σ'/\RS Bd t o N id (C0 s).rest σ'/\Rd.Val (C0 s) λw=>Aq w=(v,k):=by
 have z:V (RS Bd t o N id s a):=P;obtain⟨D,p,-,C,-⟩:=P;have a2:=Je C;have R:=Rc C;have i:V (Z (C0 s).rest<=Z s):=(Yb s).length_le;have d:V ((C0 s).rest<:+t):=(Yb s).trans C;generalize l:lw id N=y at D;have l:V (lw id N=y):=l;have a0:V (a.C o=Pk t s y):=D;rw[Pk,dO]at D;refine wl func216 ?_;refine X ?_;refine Ax Ag (λ_=>True) [9] [0,1,2,3,4,5,6,7,8] [9] nq (λ_ _ _ h=>h) ?_;intro yb ya;cases s with
 |nil=>
  simp only[length_nil,Nat.sub_zero]at D R a2;refine X ?_;have f:AQ o a ((a.new [my false,Y 0]).put a.B [my false,Y 0]):=((AQ.refl _ _).new _).putN (Nat.le_refl _) _;refine⟨_,rfl,false,0,rfl,f,z.o.stepX f ?_ d.o i.o,trivial⟩;rw[l.o,Aj p,Ah p];exact a0.o
 |cons b e=>
  simp only[length_cons,head?_cons]at D R a2;refine X ?_;refine Ax Ag (λ_=>True) [9] [0,1,2,3,4,5,6,7,8] [9] nq (λ_ _ _ h=>h) ?_;intro yb ya;refine Z3 ?_;have a7:A6 b.toNat->48<=(b.toNat:Int)/\(b.toNat:Int)<=57:=λh=>by simp[A6]at h;omega
  have q:Bs b.toNat->65<=(b.toNat:Int)/\(b.toNat:Int)<=90:=λh=>by simp[Bs]at h;omega
  have T:V ((a.new [my false,Y 0]).C o=Pk t (b::e) y):=by rw[V,Ah p];exact a0.o
  have a1:o<(a.new [my false,Y 0]).B:=by rw[Aa];omega
  have F:V (AQ o a (a.new [my false,Y 0])):=(AQ.refl _ _).new _;by_cases c:((b.toNat:Int)==48)=true;have g:Bs b.toNat=false:=by
   cases g:Bs b.toNat
   ·rfl
   have:=q g;simp at c;omega
  have m:A6 b.toNat:=by simp at c;simp[A6];omega
  have n:C0 (b::e)= .got [b] e:=by unfold C0;dsimp only;rw[if_neg (by rw[g];simp),if_pos c]
  rw[n]at i d;have E:V (Aq [b]=(false,0)):=by rw[V,Nw g];simp at c;simp[Iw];omega
  (repeat (refine m0 ?_;intro yb ya;(first|(refine Xi (Hf _ _) ?_;rintro _ _ ⟨rfl,rfl⟩)|(refine Xi (He _ _) ?_;rintro _ _ ⟨rfl,rfl⟩)|(refine Xi (aQ t e b o y Q C _ T.o a1 c) ?_;rintro _ _ ⟨u,A,rfl⟩;(have I:=u.C a.B (by rw[Aa];omega) (by omega);rw[Ao]at I;have M:V _:=u;have S:V _:=A;clear u A)))));refine X ?_
  rename_i j;have f:AQ o a (j.put a.B [my false,Y 0]):=(F.o.trans M.o).putN (Nat.le_refl _) _;refine⟨_,rfl,false,0,rfl,f,z.o.stepX f ?_ d.o i.o,E.o⟩;rw[l.o,Aj p];exact S.o;have c:((b.toNat:Int)==48)=false:=nn c;by_cases g:Bs b.toNat=true;have n:C0 (b::e)= .got [b] e:=by unfold C0;dsimp only;rw[if_pos g]
  rw[n]at i d;have E:V (Aq [b]=(true,(b.toNat:Int)-65)):=by exact Et g
  have q:=q g;have K:IntKind.i64.wrap (IntKind.u8.wrap ((b.toNat:Int)-65))=(b.toNat:Int)-65:=by rw[Abs.u8w (by omega) (by omega),Abs.i64w (by omega) (by omega)]
  refine mt (Hf _) ?_;rintro yb ya _ _ ⟨rfl,rfl⟩;refine X ?_;have f:AQ o a (((a.new [my false,Y 0]).put o [O t,Y ((Z t-(Z e+1):Nat)+1),y]).put a.B [my true,Y ((b.toNat:Int)-65)]):=(F.o.put _).putN (Nat.le_refl _) _;refine⟨_,rfl,true,_,rfl,f,z.o.stepX f ?_ d.o i.o,E.o⟩;rw[l.o,Aj p,Ak];rw[Pk,dO];rw[show ((Z t-(Z e+1):Nat):Int)+1=((Z t-Z e:Nat):Int)by omega];rfl;have g:Bs b.toNat=false:=nn g;by_cases m:A6 b.toNat=true;have G:=Ur t (b::e) o y Q C _ T.o a1 (λb' a8 a4=>by cases a4;exact c);have K:Ay A6 3 (b::e)=(b::(Ay A6 2 e).1,(Ay A6 2 e).2):=by rw[Ay,if_pos m]
  rw[K]at G;have G:V _:=G;have B:Gv b.toNat:=by obtain h|h:=CB.1 m;exact h;rw[c]at h;cases h
  have n:C0 (b::e)= .got (b::(Ay A6 2 e).1) (Ay A6 2 e).2:=by unfold C0;dsimp only;rw[if_neg (by rw[g];simp),if_neg (by rw[c];simp),if_pos B]
  rw[n]at i d;have E:V (Aq (b::(Ay A6 2 e).1)=(false,Iw (b::(Ay A6 2 e).1))):=by exact Nw g
  clear K
  (repeat (refine m0 ?_;intro yb ya;(first|(refine Xi (Hf _ _) ?_;rintro _ _ ⟨rfl,rfl⟩)|(apply Xi (He _ _);rintro _ _ ⟨rfl,rfl⟩)|(refine Xi (G.o) ?_;rintro _ _ ⟨u,a5,A,a6,U,rfl⟩;(have I:=u.C a.B (by rw[Aa];omega) (by omega);rw[Ao]at I;have M:V _:=u;have S:V _:=A;have a3:V _:=U;clear u A U)))));refine X ?_
  rename_i j;have f:AQ o a (j.put a.B [my false,Y (Iw (b::(Ay A6 2 e).1))]):=(F.o.trans M.o).putN (Nat.le_refl _) _;refine⟨_,rfl,false,_,rfl,f,z.o.stepX f ?_ d.o i.o,E.o⟩;rw[l.o,Aj p,show (Rd.got (b::(Ay A6 2 e).1) (Ay A6 2 e).2).rest=a5 from a3.o.symm];exact S.o;have m:A6 b.toNat=false:=nn m;have B:Gv b.toNat=false:=by
   cases B:Gv b.toNat
   ·rfl
   rw[CB.2 (.inl B)]at m;cases m
  have n:C0 (b::e)= .bad (b::e):=by unfold C0;dsimp only;rw[if_neg (by rw[g];simp),if_neg (by rw[c];simp),if_neg (by rw[B];simp)]
  rw[n]at i d
  (repeat (refine m0 ?_;intro yb ya;(first|(refine Xi (Hf _ _) ?_;rintro _ _ ⟨rfl,rfl⟩)|(refine Xi (He _ _) ?_;rintro _ _ ⟨rfl,rfl⟩))));refine X ?_
  have f:AQ o a ((a.new [my false,Y 0]).put a.B [my false,Y 0]):=F.o.putN (Nat.le_refl _) _;refine⟨_,rfl,false,0,rfl,f,z.o.stepX f ?_ d.o i.o,trivial⟩;rw[l.o,Aj p];exact T.o
variable {Bd:Nat}
def vM (N:ol)(n:Tx):ol:=if n∈N then N else N++[n]
def gK (N n):n∈vM N n:=by grind[vM]
def gJ (N n):N<+:vM N n:=by grind[vM]
def gP {N a:ol}{n}(h:N<+:a)(b:n∈N):a.idxOf n=N.idxOf n:=by obtain⟨c,rfl⟩:=h;grind
def gL (N n):(vM N n).idxOf n=N.idxOf n:=by grind[vM]
def Ov:∀{N:ol} {i:Nat} {n:Tx},(∀a,a<i->N[a]?≠some n)->N[i]?=some n->N.idxOf n=i
 |[],i,n,h,b=>gp
 |x::N,0,n,h,b=>gp
 |x::N,i+1,n,h,b=>by
  have c:=h 0 (gp);have e:=Ov (N:=N) (i:=i) (n:=n) (λa f=>gp) (nn b);grind
def Qe {N:ol}{n}(h:∀a,a<Z N->N[a]?≠some n):n∉N:=λd=>by let⟨i,b,c⟩:=getElem_of_mem d;grind
theorem YS {t o N id s c}(n)(a6:Z t<=1000)(z:RS Bd t o N id s c)(U:Z N+1+Z s<=Bd+Z t):
  ni 215 [ptr o 0,O n] c λx σ'=>∃id',x=Y (N.idxOf n:Nat)/\Rs o c id σ' id'/\RS Bd t o (vM N n) id' s σ':=by
 have Q:V (RS Bd t o N id s c):=z;let⟨y,hn,q,v,a8⟩:=z;have C:V (DL c id (Z N)):=q;rw[Pk,dO]at y;apply wl func215;refine X ?_
 refine Ae (λm b σ'=>∃i:Nat,m=Z N-i/\i<=Z N/\b 0=ptr o 0/\b 1=O n/\b 10=lw id N/\b 11=Y (Z N)/\b 12=Y i/\σ'=c/\V (∀a,a<i->N[a]?≠some n)) (Z N)
  ⟨0,gp,gp,rfl,rfl,rfl,rfl,rfl,rfl,λa E=>gp⟩ ?_
 rintro m b σ' ⟨i,rfl,a7,a5,a3,a0,a1,a4,l,f⟩;subst l;by_cases A:i<Z N;have M:=A1 A;have e:V (N[i]?=some N[i]):=getElem?_eq_getElem A;generalize N[i]=w at M e;refine m6 ?_ ?_<;>intro h a2;have p:w=n:=nn h;subst p;have D:w∈N:=mem_of_getElem? e.o;refine⟨_,rfl,id,by rw[Ov f.o e.o],Rs.refl _ _ _,?_⟩;rw[vM,if_pos D];exact Q.o;have p:w≠n:=nn h;refine⟨Z N-(i+1),gp,i+1,rfl,gp,nk,?_⟩;intro a E;by_cases K:a=i;subst K;rw[e.o];simpa using p;exact f.o a (gp);have P:i=Z N:=gp
 subst P;have u:=Qe f.o;refine nh ?_;intro yb ya;refine tA (σ0:=σ') (o:=o) (by exact S1) C.o nr (by rfl) nk (by rfl) (by rfl) nr (gp) (gp) ?_;intro id' d g G T aa ad k;have I:o<d.B:=gp
 refine X ?_;have F:vM N n=N++[n]:=by grind[vM]
 have B:=idxOf_eq_length u;refine⟨_,rfl,id',gp,⟨G.put _,k⟩,?_⟩;rw[F];refine⟨?_,I,?_,v,gp⟩;rw[Ak];simp[Pk,dO];obtain h|⟨j,R,S,q3,q4⟩:=g;exact .inl ⟨h.1,ny h.2⟩;exact .inr ⟨j,R,S,by grind[Og],nk⟩
def X5 {t o N id s a}(f){n}(e:Z t<=1000)(c:RS Bd t o N id s a)(d:Z N+1+Z s<=Bd+Z t)(b:n=f):
  ni 215 [ptr o 0,O n] a λx σ'=>∃id',x=Y (N.idxOf f:Nat)/\Rs o a id σ' id'/\RS Bd t o (vM N f) id' s σ':=by grind[YS]
variable {Bd:Nat}
def smalls (s a q:Tx):Prop:=Z a<=6/\s=a++q/\Ay B6 6 s=(a++(Ay B6 (6-Z a) q).1,(Ay B6 (6-Z a) q).2)
def qF (s):smalls s [] s:=⟨nk,nk,nk⟩
def lF {s a q b}(h:smalls s a (b::q))(g:Z a<6)(d:B6 b.toNat):smalls s (a++[b]) q:=by
 let⟨i,f,c⟩:=h;have e:6-Z a=(6-Z (a++[b]))+1:=gp
 rw[e,Ay,if_pos d]at c;exact⟨gp,gp,gp⟩
def Lr {s a q}(h:smalls s a q)(c:Z a=6\/q=[]\/∃b g,q=b::g/\B6 b.toNat=false):Ay B6 6 s=(a,q):=by obtain⟨f,-,d⟩:=h;rw[d];obtain c|rfl|⟨b,g,rfl,i⟩:=c;rw[c];simp[Ay];cases e:6-Z a<;>simp[Ay];cases e:6-Z a<;>simp[Ay,i]
def wZ {t s:Tx}(h:s<:+t):t.drop (Z t-Z s)=s:=by obtain⟨p,rfl⟩:=h;simp
theorem UF {t s a q:Tx}(h:s<:+t)(e:s=a++q){k}(b:k=Z a):(t.drop (Z t-Z s)).take k=a:=by rw[wZ h,e,b];simp
def S6 {t s a q:Tx}(h:s<:+t)(e:s=a++q){j k}(c:j=Z t-Z s)(b:k=Z a):(t.drop j).take k=a:=by grind[UF]
def dW {s a q}(h:Ay B6 6 s=(a,q))(b:Z a=0):E7 s= .bad s:=by grind[E7]
def Tc {s a q}(h:Ay B6 6 s=(a,q))(b:Z a≠0):E7 s= .got a q:=by grind[E7]
def Mg {t o N id s v}(K:Z t<=1000)(U:RS Bd t o N id s v):
  ni 183 [ptr o 0] v λx σ'=>∃k G id',x=tp [Y k,my ((E7 s).ok)]/\Rs o v id σ' id'/\RS Bd t o G id' (E7 s).rest σ'/\N<+:G/\Rd.Val (E7 s) λn=>n∈G/\k=(G.idxOf n:Nat):=by
 have j:V (RS Bd t o N id s v):=U;obtain⟨I,a6,-,p,-⟩:=U;have ay:=Je p;generalize z:lw id N=T at I;have a7:V (v.C o=Pk t s T):=I;unfold Pk dO at I;refine wl func183 ?_;refine X ?_
 refine Ae (λa2 S σ'=>∃(q a:Tx),a2=6-Z a/\S 0=ptr o 0/\S 4=Y (Z t-Z s:Nat)/\AQ o v σ'/\σ'.C o=Pk t q T/\o<σ'.B/\q<:+t/\Z s=Z a+Z q/\V (smalls s a q)) 6
  ⟨s,[],rfl,rfl,rfl,AQ.refl _ _,a7.o,a6,p,nk,qF s⟩ ?_
 rintro a2 S σ' ⟨q,a,rfl,h0,a9,d,R,az,u,M,f⟩;clear I;have P:=Je u;have Q:=Rc u;have a0:=f.o.1;have D:V (σ'.C o=Pk t q T):=R;unfold Pk dO at R;refine X ?_;refine Ax Ag (λ_=>True) [30] [0,1,2,3,4,5,6,7,8,9,10,11,12,13,14,15,16,17,18,19,20,21,22,23,24,25,26,27,28] [29,30] nq (λ_ _ _ h=>h) ?_;intro yb ya;cases q with
 |nil=>
  simp only[length_nil,Nat.sub_zero,Nat.add_zero]at R Q P M;refine Z3 ?_;refine m6 ?_ ?_<;>intro h a5
  all_goals have g:=Lr f.o (.inr (.inl rfl))
  ·
   have i:Z a=0:=by simp at h;omega
   have c:=dW g i;have y:=f.o.2.1;rw[eq_nil_of_length_eq_zero i,nil_append]at y;refine⟨_,rfl,0,N,id,by rw[c];rfl,Rs.ofX d,?_,prefix_refl _,by rw[c];trivial⟩;rw[c];exact j.o.stepX d (by rw[z];exact y ▸ D.o) p (Nat.le_refl _)
  
  have i:Z a≠0:=by simp at h;omega
  have c:=Tc g i;have l:=j.o.stepX d (by rw[z];exact D.o) u (by simp only[length_cons,length_nil];omega);have a1:=j.o.len;have E:V _:=l;have F:V _:=f;have e:V _:=c;have C:V _:=d;clear l c d g;refine Ax Ag (λ_=>True) [10] [0,1,2,3,4,5,6,7,8,9] [10] nq (λ_ _ _ h=>h) ?_;intro yb ya;refine Z3 ?_;refine m0 ?_;intro yb ya;refine Xi (X5 a K E.o (by simp only[length_cons,length_nil];omega) (by refine S6 p F.o.2.1 ?_ ?_<;>omega)) ?_;rintro _ _ ⟨id',rfl,A,B⟩;refine X ?_;refine⟨_,rfl,_,vM N a,id',by rw[e.o];rfl,(Rs.ofX C.o).trans A,?_,gJ _ _,?_⟩
  ·rw[e.o];exact B
  rw[e.o];exact⟨gK _ _,by rw[gL]⟩
 |cons b m=>
  simp only[length_cons,head?_cons]at R Q P M;have a3:=S5 u;refine Z3 ?_
  repeat' first|refine Z1 ?_|refine Z8 λyb ya=>?_|refine Z4 ?_;clear ya yb|refine Z2 ?_ ?_<;>intro h a5<;>try exact Xp|refine Z5 ?_;refine Xi (Rw _ _) ?_;rintro _ _ ⟨rfl,rfl⟩|refine Z3 ?_|exact Zt|apply ya.o;clear ya yb
  ·have a8:Z a<6:=by omega
   have a4:B6 b.toNat:=nu;refine⟨6-Z (a++[b]),by simp;omega,m,a++[b],rfl,d.put _,?_,a3,by simp;omega,lF f.o a8 a4⟩;unfold Pk dO;rw[show ((Z t-(Z m+1):Nat):Int)+1=((Z t-Z m:Nat):Int)by omega]
  ·have g:=Lr f.o (.inr (.inr ⟨b,m,rfl,nu⟩));have i:Z a=0:=by simp at h;omega
   have c:=dW g i;have y:=f.o.2.1;rw[eq_nil_of_length_eq_zero i,nil_append]at y;refine⟨_,rfl,0,N,id,by rw[c];rfl,Rs.ofX d,?_,prefix_refl _,by rw[c];trivial⟩;rw[c];exact j.o.stepX d (by rw[z];exact y ▸ D.o) p (Nat.le_refl _)
  ·have g:=Lr f.o (.inr (.inr ⟨b,m,rfl,nu⟩));have i:Z a≠0:=by simp at h;omega
   have c:=Tc g i;have l:=j.o.stepX d (by rw[z];exact D.o) u (by simp only[length_cons,length_nil];omega);have a1:=j.o.len;have E:V _:=l;have F:V _:=f;have e:V _:=c;have C:V _:=d;clear l c d g;refine Ax Ag (λ_=>True) [10] [0,1,2,3,4,5,6,7,8,9] [10] nq (λ_ _ _ h=>h) ?_;intro yb ya;refine Z3 ?_;refine m0 ?_;intro yb ya;refine Xi (X5 a K E.o (by simp only[length_cons,length_nil];omega) (by refine S6 p F.o.2.1 ?_ ?_<;>omega)) ?_;rintro _ _ ⟨id',rfl,A,B⟩;refine X ?_;refine⟨_,rfl,_,vM N a,id',by rw[e.o];rfl,(Rs.ofX C.o).trans A,?_,gJ _ _,?_⟩
   ·rw[e.o];exact B
   rw[e.o];exact⟨gK _ _,by rw[gL]⟩
  ·exfalso;simp at h;omega
  have g:=Lr f.o (.inl (by omega));have i:Z a≠0:=by simp at h;omega
  have c:=Tc g i;have l:=j.o.stepX d (by rw[z];exact D.o) u (by simp only[length_cons,length_nil];omega);have a1:=j.o.len;have E:V _:=l;have F:V _:=f;have e:V _:=c;have C:V _:=d;clear l c d g;refine Ax Ag (λ_=>True) [10] [0,1,2,3,4,5,6,7,8,9] [10] nq (λ_ _ _ h=>h) ?_;intro yb ya;refine Z3 ?_;refine m0 ?_;intro yb ya;refine Xi (X5 a K E.o (by simp only[length_cons,length_nil];omega) (by refine S6 p F.o.2.1 ?_ ?_<;>omega)) ?_;rintro _ _ ⟨id',rfl,A,B⟩;refine X ?_;refine⟨_,rfl,_,vM N a,id',by rw[e.o];rfl,(Rs.ofX C.o).trans A,?_,gJ _ _,?_⟩
  ·rw[e.o];exact B
  rw[e.o];exact⟨gK _ _,by rw[gL]⟩
end Go.Proofs.YtmoeoppbmhfbpabGreatDoorJ
