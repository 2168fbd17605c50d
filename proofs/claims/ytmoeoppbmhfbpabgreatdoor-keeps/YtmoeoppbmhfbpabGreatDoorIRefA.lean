import Derived.Test.YtmoeoppbmhfbpabGreatDoorIFacts
set_option maxHeartbeats 16000000
set_option maxRecDepth 100000
set_option linter.all false
open List renaming length->Z
namespace Go.Proofs.YtmoeoppbmhfbpabGreatDoorI
open Go.Abs
def B6 (c:Int):Bool:=decide (97<=c)&&decide (c<=122)
def Bw (c:Int):Bool:=decide (65<=c)&&decide (c<=90)
def G3 (c:Int):Bool:=decide (49<=c)&&decide (c<=57)
theorem Wr (c N):AF Tryz.prog 197 [sc (.int .u8 c)] N fun x N'=>x=sc (.bool (B6 c))/\N'=N:=by
 refine Z9 9 [.tmp 2] Tryz.func197 ?_
 refine qe ?_ ?_<;>intro h aa
 all_goals exact⟨_,rfl,by simp[B6, *]⟩
theorem Qa (c N):AF Tryz.prog 195 [sc (.int .u8 c)] N fun x N'=>x=sc (.bool (Bw c))/\N'=N:=by
 refine Z9 9 [.tmp 2] Tryz.func195 ?_
 refine qe ?_ ?_<;>intro h aa
 all_goals exact⟨_,rfl,by simp[Bw, *]⟩
theorem yQ (c N):AF Tryz.prog 199 [sc (.int .u8 c)] N fun x N'=>x=sc (.bool (G3 c))/\N'=N:=by
 refine Z9 9 [.tmp 2] Tryz.func199 ?_
 refine qe ?_ ?_<;>intro h aa
 all_goals exact⟨_,rfl,by simp[G3, *]⟩
structure BC where
 st:Int
 items:Int
 letters:Int
 digits:Int
 A:Int
 lits:Int
 h:Bool
def Kb (X:BC):List AV:=[ic X.st,ic X.items,ic X.letters,ic X.digits,ic X.A,ic X.lits,sc (.bool X.h)]
theorem vC (o st a r N)(h:N.C o=a::r):AF Tryz.prog 198 [ptr o 0,ic st] N fun x N'=>x=sc (.bool true)/\N'=N.put o (ic st::r):=by
 refine Z9 9 [.tmp 4] Tryz.func198 ?_
 refine zz ?_
 first|exact⟨_,rfl,rfl,rfl⟩|exact⟨_,rfl,rfl⟩
structure AP (o:Nat)(N N':St):Prop where
 B:N.B<=N'.B
 C:∀p,p<N.B->p≠o->N'.C p=N.C p
 ver:∀p,p<N.B->p≠o->N'.ver p=N.ver p
 D:N.D<=N'.D
 top:∀k,k<N.D->N'.top k=N.top k
theorem AP.refl (o N):AP o N N:=⟨AR _,fun _ _ _=>rfl,fun _ _ _=>rfl,AR _,fun _ _=>rfl⟩
theorem AP.put {o N N'}(h:AP o N N')(cs):AP o N (N'.put o cs):=
 ⟨h.B,fun p hp aa=>by simp[St.put,aa];exact h.C p hp aa,fun p hp aa=>by simp[St.put,aa];exact h.ver p hp aa,h.D,h.top⟩
theorem AP.trans {o a b c}(h:AP o a b)(k:AP o b c):AP o a c:=
 ⟨BO h.B k.B,fun p hp aa=>(k.C p (By hp h.B) aa).trans (h.C p hp aa),fun p hp aa=>(k.ver p (By hp h.B) aa).trans (h.ver p hp aa),
  BO h.D k.D,fun j hj=>(k.top j (By hj h.D)).trans (h.top j hj)⟩
theorem AP.keep {o a b c}(h:AE a b)(k:AP o b c)(ho:a.B<=o):AE a c:=
 ⟨BO h.B k.B,fun p hp=>(k.C p (By hp h.B) AA).trans (h.C p hp),fun p hp=>(k.ver p (By hp h.B) AA).trans (h.ver p hp),
  BO h.D k.D,fun j hj=>(k.top j (By hj h.D)).trans (h.top j hj)⟩
def Ec (X:BC)(c:Int):BC×Bool:=
 if (X.st==5)=true then
  if B6 c=true/\decide (X.letters<6)=true then ({X with letters:=X.letters+1},true)
  else if (c==40)=true then ({X with A:=0,st:=6},true)else ({X with A:=0},false)
 else if (X.st==6)=true then
  if G3 c=true then ({X with A:=X.A+1,digits:=1,st:=7},true)
  else if Bw c=true\/(c==48)=true then ({X with A:=X.A+1,digits:=1,st:=8},true)else ({X with A:=X.A+1,digits:=1},false)
 else if (X.st==7)=true/\decide (X.digits<3)=true/\(G3 c=true\/(c==48)=true)then ({X with digits:=X.digits+1},true)
 else if (c==41)=true then ({X with lits:=if (!X.h)=true then X.lits+1 else X.lits,st:=9},true)
 else if (c==44)=true/\decide (X.A<3)=true then ({X with st:=6},true)else (X,false)
def Cy (X:BC)(c:Int):BC×Bool:=
 if (X.st==0)=true then
  if (X.items==16)=true then (X,false)
  else if (c==63)=true then ({X with h:=true,letters:=0,lits:=0,st:=1},true)
  else if B6 c=true then ({X with h:=true,letters:=1,lits:=0,st:=5},true)else ({X with h:=true,letters:=1,lits:=0},false)
 else if (X.st==1)=true\/(X.st==2)=true then
  if B6 c=true/\decide (X.letters<6)=true then ({X with letters:=X.letters+1,st:=2},true)
  else if (c==46)=true/\(X.st==2)=true then ({X with items:=X.items+1,st:=0},true)else (X,false)
 else if (X.st==3)=true\/(X.st==4)=true then
  if (c==33)=true/\(X.st==3)=true then ({X with letters:=1,st:=4},true)
  else if B6 c=true then ({X with letters:=1,st:=5},true)else ({X with letters:=1},false)
 else if (X.st==10)=true then
  if (c==45)=true then ({X with h:=false,st:=3},true)else ({X with h:=false},false)
 else if (c==46)=true then ({X with items:=X.items+1,st:=0},true)
 else if (c==58)=true/\X.h=true then ({X with st:=10},true)
 else if (c==44)=true/\(!X.h)=true/\decide (X.lits<5)=true then ({X with st:=3},true)else (X,false)
def BC.small (X:BC):Prop:=X.items<=100000/\X.letters<=100000/\X.digits<=100000/\X.A<=100000/\X.lits<=100000/\0<=X.items/\0<=X.letters/\0<=X.digits/\0<=X.A/\0<=X.lits
theorem sA (o X)(hX:X.small)(c N)(h:N.C o=Kb X):
  AF Tryz.prog 159 [ptr o 0,sc (.int .u8 c)] N fun x N'=>x=sc (.bool (Ec X c).2)/\N'.C o=Kb (Ec X c).1/\AP o N N':=by
 obtain⟨b1,b2,b3,b4,b5,b6,b7,b8,b9,b10⟩:=hX;obtain⟨st,items,letters,digits,terms,lits,head⟩:=X;unfold Kb at*
 simp only at*
 refine Z9 118 [.tmp 4] Tryz.func159 ?_
 repeat' first|refine Z1 ?_|refine Z8 fun yd yb=>?_|refine Z4 ?_;clear yb yd|refine Z2 ?_ ?_<;>intro h aa<;>try exact Xp|(refine Z5 ?_;first|(refine Xi (Wr _ _) ?_;rintro _ _ ⟨rfl,rfl⟩)|(refine Xi (yQ _ _) ?_;rintro _ _ ⟨rfl,rfl⟩)|(refine Xi (Qa _ _) ?_;rintro _ _ ⟨rfl,rfl⟩)|(refine Xi (vC _ _ _ _ _ (by first|assumption|(simp only[Ak];rfl))) ?_;rintro _ _ ⟨rfl,rfl⟩))|refine Z3 ?_|exact Zt|apply yb.o;clear yb yd
 all_goals exact⟨_,rfl,by simp only[Ec, *,↓reduceIte,ER,and_self,or_self,JC,and_true,true_or,or_true,false_or,DY,and_false,false_and,reduceCtorEq,if_true,if_false,OE,OS,JA,JU],by simp only[Ec, *,↓reduceIte,ER,and_self,or_self,JC,and_true,true_or,or_true,false_or,DY,and_false,false_and,reduceCtorEq,if_true,if_false,OE,OS,JA,JU],by repeat (first|exact AP.refl _ _|apply AP.put)⟩
theorem rF (o X)(hX:X.small)(c N)(h:N.C o=Kb X):
  AF Tryz.prog 160 [ptr o 0,sc (.int .u8 c)] N fun x N'=>x=sc (.bool (Cy X c).2)/\N'.C o=Kb (Cy X c).1/\AP o N N':=by
 obtain⟨b1,b2,b3,b4,b5,b6,b7,b8,b9,b10⟩:=hX;obtain⟨st,items,letters,digits,terms,lits,head⟩:=X;unfold Kb at*
 simp only at*
 refine Z9 154 [.tmp 4] Tryz.func160 ?_
 repeat' first|refine Z1 ?_|refine Z8 fun yd yb=>?_|refine Z4 ?_;clear yb yd|refine Z2 ?_ ?_<;>intro h aa<;>try exact Xp|(refine Z5 ?_;first|(refine Xi (Wr _ _) ?_;rintro _ _ ⟨rfl,rfl⟩)|(refine Xi (vC _ _ _ _ _ (by first|assumption|(simp only[Ak];rfl))) ?_;rintro _ _ ⟨rfl,rfl⟩))|refine Z3 ?_|exact Zt|apply yb.o;clear yb yd
 all_goals exact⟨_,rfl,by simp only[Cy, *,↓reduceIte,ER,and_self,or_self,JC,and_true,true_or,or_true,false_or,DY,and_false,false_and,reduceCtorEq,if_true,if_false,OE,OS,JA,JU],by simp only[Cy, *,↓reduceIte,ER,and_self,or_self,JC,and_true,true_or,or_true,false_or,DY,and_false,false_and,reduceCtorEq,if_true,if_false,OE,OS,JA,JU],by repeat (first|exact AP.refl _ _|apply AP.put)⟩
def B8 (l:List UInt8)(c:Int):Nat:=l.findIdx fun x=>(x.toNat:Int)==c
theorem Rr (l c):B8 l c<=Z l:=List.findIdx_le_length
theorem zK (l c k)(hk:k<Z l)(hn:∀(j:Nat),j<k->∀(x:UInt8),l[j]?=some x->((x.toNat:Int)==c)=false)(hc:((l[k].toNat:Int)==c)=true):B8 l c=k:=by
 unfold B8;rw[List.findIdx_eq hk];exact⟨hc,fun j hj=>hn j hj _ (AJ _)⟩
theorem Yi (l c)(hn:∀(j:Nat),j<Z l->∀(x:UInt8),l[j]?=some x->((x.toNat:Int)==c)=false):B8 l c=Z l:=by
 unfold B8;rw[List.findIdx_eq_length];intro x hx;obtain⟨j,hj,he⟩:=List.mem_iff_getElem.1 hx;exact hn j hj x (by rw[<-he];exact AJ _)
theorem K7 (l c)(hb:Z l<=100000)(N):AF Tryz.prog 61 [str l,sc (.int .u8 c)] N fun x N'=>x=ic (B8 l c)/\N'=N:=by
 refine Z9 20 [.tmp 4] Tryz.func61 ?_
 refine pz ?_
 refine Ae (fun m s N'=>∃k:Nat,m=Z l-k/\k<=Z l/\s 0=str l/\s 1=sc (.int .u8 c)/\s 5=ic k/\N'=N/\
  ∀(j:Nat),j<k->∀(x:UInt8),l[j]?=some x->((x.toNat:Int)==c)=false) (Z l) ⟨0,AA,AA,rfl,rfl,rfl,rfl,fun j h=>AA⟩ ?_
 rintro m s N' ⟨k,rfl,hk,h0,h1,h5,rfl,ab⟩;by_cases ac:k<Z l
 ·have af:=AJ ac
  refine qe ?_ ?_<;>intro h aa
  ·exact⟨_,rfl,by rw[zK l c k ac ab (by assumption)]⟩
  ·refine⟨Z l-(k+1),AA,k+1,rfl,AA,by simp,fun j hj x hx=>?_⟩;by_cases ae:j=k
   ·subst ae;rw[af]at hx;cases hx;assumption
   ·exact ab j AA x hx
 ·have ad:k=Z l:=AA
  refine pz ?_
  exact⟨_,rfl,by rw[Yi l c (by rw[ad]at ab;exact ab)]⟩
def B7 (c:Int):List UInt8->Bool->List UInt8->List (List UInt8)
 |[],_,cur=>if cur=[]then []else [cur]
 |b::r,deep,cur=>
  let d1:=if ((b.toNat:Int)==40)=true then true else deep
  let d2:=if ((b.toNat:Int)==41)=true then false else d1
  if ((b.toNat:Int)==c)=true/\d2=false then cur::B7 c r d2 []else B7 c r d2 (cur++[b])
def Gq (s:List UInt8)(c:Int):List (List UInt8):=B7 c s false []
theorem Kk (c):∀(s:List UInt8) (d:Bool) (cur:List UInt8),Z (B7 c s d cur)<=Z s+1
 |[],d,cur=>by unfold B7;split<;>simp
 |b::r,d,cur=>by
  unfold B7
  all_goals
   simp only[];generalize (if ((b.toNat:Int)==41)=true then false else _)=d2;split
   ·have:=Kk c r d2 [];simp;omega
   ·have:=Kk c r d2 (cur++[b]);simp;omega
theorem eE {s:List UInt8}{k}(h:k<Z s):s.drop k=s[k]::s.drop (k+1):=FJ h
theorem xN {s:List UInt8}{f k}(hf:f<=k)(h:k<Z s):(s.drop f).take (k+1-f)=(s.drop f).take (k-f)++[s[k]]:=by
 rw[show k+1-f=(k-f)+1 by omega,AU,JD,show f+(k-f)=k by omega,AJ h];rfl
theorem Nw (l c)(hb:Z l<=100000)(N):AF Tryz.prog 99 [str l,sc (.int .u8 c)] N fun x N'=>∃id,x=sl id (Z (Gq l c)) ((Gq l c).map str)/\AE N N':=by
 refine Z9 52 [.tmp 4] Tryz.func99 ?_
 refine zz ?_
 refine Ae (fun m s N'=>∃(k f id:Nat) (d:Bool) (acc:List (List UInt8)),m=Z l-k/\k<=Z l/\f<=k/\s 0=str l/\s 1=sc (.int .u8 c)/\s 5=sl id (Z acc) (acc.map str)/\s 6=sc (.bool d)/\s 7=ic f/\s 8=ic k/\
  AE N N'/\Own N N' id (Z acc)/\Z acc<=k/\AD (Gq l c=acc++B7 c (l.drop k) d ((l.drop f).take (k-f)))) (Z l) ⟨0,0,1,false,[],AA,AA,AA,rfl,rfl,rfl,rfl,rfl,rfl,AE.refl _,Own.nil _ _,by simp,rfl⟩ ?_
 rintro m s N' ⟨k,f,id,d,acc,rfl,hk,an,h0,h1,h5,h6,h7,h8,hK,hO,ap,aa⟩;by_cases ad:k<Z l
 ·have ao:=AJ ad
  repeat' first|refine Z1 ?_|refine Z8 fun yd yb=>?_|refine Z4 ?_;clear yb yd|refine Z2 ?_ ?_<;>intro h ae<;>try exact Xp|refine Z6 ?_;intro idn Nn aj ak ah ac af ab|refine Z3 ?_|exact Zt|apply yb.o;clear yb yd
  all_goals first
   |(refine⟨Z l-(k+1),AA,k+1,k+1,idn,_,acc++[(l.drop f).take (k-f)],rfl,AA,AA,by simp,rfl,by simp,by simp,by simpa using aj,by simp;omega,?_⟩
     have hc:=aa.o;rw[eE ad]at hc;simp only[B7, *,↓reduceIte,and_self,ER]at hc;rw[AD,hc]
     try first|(simp;done)|(cases d<;>simp at h⊢))
   |(refine⟨Z l-(k+1),AA,k+1,f,id,_,acc,rfl,AA,AA,rfl,rfl,rfl,by simp,hO,AA,?_⟩
     have hc:=aa.o;rw[eE ad]at hc;simp only[B7, *,↓reduceIte,and_self,and_false,false_and,reduceCtorEq,ER]at hc;rw[AD,hc,xN an ad]
     try first|rfl|(cases d<;>simp at h⊢))
 ·have hc:=aa.o;have am:k=Z l:=AA;subst am;simp only[JZ,B7]at hc;have ai:(l.drop f).take (Z l-f)=l.drop f:=FW (by simp);rw[ai]at hc;have HC:=(show AD _ from hc);clear hc aa ai
  repeat' first|refine Z1 ?_|refine Z8 fun yd yb=>?_|refine Z4 ?_;clear yb yd|refine Z2 ?_ ?_<;>intro h ae<;>try exact Xp|refine Z6 ?_;intro idn Nn aj ak ah ac af ab|refine Z3 ?_|exact Zt|apply yb.o;clear yb yd
  ·first|refine⟨_,rfl,idn,?_,ak⟩|refine⟨_,rfl,idn,?_⟩
   have hc:=HC.o;rw[if_neg (by intro e;have:=congrArg List.length e;simp at this;omega)]at hc;rw[hc];simp
   try rw[FW (by simp)]
  ·first|refine⟨_,rfl,id,?_,hK⟩|refine⟨_,rfl,id,?_⟩
   have hc:=HC.o;rw[if_pos (by apply GQ;simp;omega)]at hc;rw[hc];simp
structure AC where
 nt:Bool
 B:List UInt8
 A:List (List UInt8)
structure AB where
 o:Bool
 h:AC
 A:List AC
def Bo (a:AC)(c:List AV):Prop:=∃id,c=[sc (.bool a.nt),str a.B,sl id (Z a.A) (a.A.map str)]
theorem Bb (a c)(h:Bo a c):Z c=3:=by obtain⟨id,rfl⟩:=h;rfl
def AN (x:AB)(c:List AV):Prop:=∃h id b,Bo x.h h/\EL Bo x.A b/\c=sc (.bool x.o)::h++[sl id (Z x.A) b]
theorem Cj (x c)(h:AN x c):Z c=5:=by
 obtain⟨h,id,b,⟨i,rfl⟩,-,rfl⟩:=h;rfl
def Pj:List UInt8->Bool
 |[]=>false
 |b::_=>(b.toNat:Int)==33
def Jk (s:List UInt8):List UInt8:=if Pj s then (s.drop 1).take (Z s-1)else s
def Pk (nt:Bool)(s:List UInt8):AC:=
 {nt:=nt,B:=(s.drop 0).take (B8 s 40-0),A:=if B8 s 40+1<Z s then Gq ((s.drop (B8 s 40+1)).take (Z s-1-(B8 s 40+1))) 44 else []}
def D2 (s:List UInt8):AC:=Pk (Pj s) (Jk s)
theorem Tf (l)(hb:Z l<=10000)(N):AF Tryz.prog 106 [str l] N fun x N'=>∃c,x=ag c/\Bo (D2 l) c/\AE N N':=by
 refine Z9 36 [.cell 2 108] Tryz.func106 ?_;have ac:∀(m:List UInt8),((B8 m 40:Nat):Int)<=(Z m:Int):=fun m=>by have:=Rr m 40;omega
 cases l with
 |nil=>
  have ae:(([]:List UInt8)==[])=true:=rfl;have hf:=ac [];simp only[CP]at hf ac
  refine qb ?_;intro yd yb;(first|(refine Xi (K7 _ _ (by simp) _) ?_;rintro _ _ ⟨rfl,rfl⟩)|(refine Xi (Nw _ _ (by simp) _) ?_;rintro _ _ ⟨idc,rfl,ab⟩;(have ko:=ab.C;simp only[Aa,Ab]at ko)));refine pz ?_
  exact⟨_,rfl,_,rfl,⟨1,by simp[D2,Pk,Pj,Jk]⟩,Xs⟩
 |cons b r=>
  have ae:(b::r==([]:List UInt8))=false:=rfl;simp only[BQ]at hb;have ad:(b::r)[0]?=some b:=rfl;have hf:=Rr r 40;have af:=Rr (b::r) 40;simp only[BQ]at af
  repeat' first|refine Z1 ?_|refine Z8 fun yd yb=>?_|refine Z4 ?_;clear yb yd|refine Z2 ?_ ?_<;>intro h aa<;>try exact Xp|(refine Z5 ?_;first|(refine Xi (K7 _ _ (by first|omega|(simp;omega)) _) ?_;rintro _ _ ⟨rfl,rfl⟩)|(refine Xi (Nw _ _ (by first|omega|(simp;omega)) _) ?_;rintro _ _ ⟨idc,rfl,ab⟩;(have ko:=ab.C;simp only[Aa,Ab]at ko)))|refine Z3 ?_|exact Zt|apply yb.o;clear yb yd
  ·have hq:B8 r 40+1<Z r:=AA;exact⟨_,rfl,_,rfl,⟨idc,by simp[D2,Pk,Pj,Jk, *]⟩,Xs⟩
  ·have hq:¬B8 r 40+1<Z r:=AA;exact⟨_,rfl,_,rfl,⟨1,by simp[D2,Pk,Pj,Jk, *]⟩,Xs⟩
  ·have hq:B8 (b::r) 40<Z r:=AA;exact⟨_,rfl,_,rfl,⟨idc,by simp[D2,Pk,Pj,Jk, *]⟩,Xs⟩
  ·have hq:¬B8 (b::r) 40<Z r:=AA;exact⟨_,rfl,_,rfl,⟨1,by simp[D2,Pk,Pj,Jk, *]⟩,Xs⟩
theorem any_take_succ {α:Type}{l:List α}{k a}(p)(h:l[k]?=some a):(l.take (k+1)).any p=((l.take k).any p||p a):=by
 rw[AU,h];simp
theorem Ek {α:Type}{l:List α}{k:Nat}{a}(p)(h:l[k]?=some a)(hp:p a=true):l.any p=true:=
 CW.2 ⟨a,BD h,hp⟩
def Ac:List UInt8->Bool
 |[]=>false
 |b::_=>Bw b.toNat
theorem Dt (l N):AF Tryz.prog 152 [str l] N fun x N'=>x=sc (.bool (Ac l))/\N'=N:=by
 refine Z9 10 [.tmp 2] Tryz.func152 ?_;cases l with
 |nil=>
  have ab:(([]:List UInt8)==[])=true:=rfl
  refine pz ?_
  all_goals exact⟨_,rfl,by simp[Ac]⟩
 |cons b r=>
  have ab:(b::r==([]:List UInt8))=false:=rfl;have aa:(b::r)[0]?=some b:=rfl
  refine qb ?_;intro yd yb;refine Xi (Qa _ _) ?_;rintro _ _ ⟨rfl,rfl⟩;refine pz ?_
  all_goals exact⟨_,rfl,by simp[Ac]⟩
def Af (x:AB):List AC:=(if x.o=true then []else [x.h])++x.A
abbrev Bm (x:AB)(ih id:Nat)(b:List AV):List AV:=[sc (.bool x.o),sc (.bool x.h.nt),str x.h.B,sl ih (Z x.h.A) (x.h.A.map str),sl id (Z x.A) b]
theorem AN.cells {x c}(h:AN x c):∃ih id b,EL Bo x.A b/\c=Bm x ih id b:=by
 obtain⟨h,id,b,⟨i,rfl⟩,hb,rfl⟩:=h;exact⟨i,id,b,hb,rfl⟩
theorem AN.of {x ih id b}(h:EL Bo x.A b):AN x (Bm x ih id b):=⟨_,id,b,⟨ih,rfl⟩,h,rfl⟩
theorem Cf {l cs i a}(h:EL Bo l cs)(hi:l[i]?=some a):∃ia r,cs.drop (i*3)=sc (.bool a.nt)::str a.B::sl ia (Z a.A) (a.A.map str)::r:=by
 obtain⟨c,r,⟨ia,rfl⟩,e⟩:=EL.get Bb h hi;exact⟨ia,r,e⟩
theorem rL (x p c)(hc:AN x c)(hn:Z x.A<=100000)(N):AF Tryz.prog 203 [ag c,str p] N fun r N'=>r=sc (.bool (x.A.any fun a=>a.B==p))/\AE N N':=by
 obtain⟨ih,id,b,hb,rfl⟩:=hc.cells;have ae:=EL.length Bb hb;refine Z9 21 [.tmp 4] Tryz.func203 ?_
 refine zz ?_
 refine Ae (fun m s N'=>∃k:Nat,m=Z x.A-k/\k<=Z x.A/\s 2=ptr N.B 0/\s 1=str p/\s 5=ic k/\N'=N.new (Bm x ih id b)/\AD ((x.A.take k).any (fun a=>a.B==p)=false)) (Z x.A)
  ⟨0,AA,AA,rfl,rfl,rfl,rfl,by simp[AD]⟩ ?_
 rintro m s N' ⟨k,rfl,hk,h2,h1,h5,rfl,aa⟩;by_cases ab:k<Z x.A
 ·obtain⟨ia,r,hd⟩:=Cf hb (AJ ab)
  refine qe ?_ ?_<;>intro h ac
  ·exact⟨_,rfl,by rw[Ek _ (AJ ab) (by assumption)],Xs⟩
  ·exact⟨Z x.A-(k+1),AA,k+1,rfl,AA,by simp,by rw[AD,any_take_succ _ (AJ ab),aa.o];simpa using h⟩
 ·have ad:k=Z x.A:=AA;subst ad;rw[AS]at aa
  refine pz ?_
  exact⟨_,rfl,by rw[aa.o],Xs⟩
def Py (x:AB):List AC:=if x.o=true then []else [x.h]
def oL (x:AB)(ih id:Nat)(b:List AV)(N:St)(m:Nat)(s:Sl)(N':St):Prop:=
 ∃(k id3:Nat) (xs:List AV),m=Z x.A-k/\k<=Z x.A/\s 1=ptr N.B 0/\s 3=sl id3 (Z (Py x)+k) xs/\s 4=ic k/\AE N N'/\Own N N' id3 (Z (Py x)+k)/\
  N'.C N.B=Bm x ih id b/\N.B<N'.B/\AD (EL Bo (Py x++x.A.take k) xs)
theorem L5 (x c)(hc:AN x c)(hn:Z x.A<=100000)(N):AF Tryz.prog 114 [ag c] N fun r N'=>∃id cs,r=sl id (Z (Af x)) cs/\EL Bo (Af x) cs/\AE N N':=by
 obtain⟨ih,id,b,hb,rfl⟩:=hc.cells;have an:=EL.length Bb hb;have hpl:Z (Py x)<=1:=by unfold Py;split<;>simp
 refine Z9 29 [.tmp 2] Tryz.func114 ?_
 refine qe ?_ ?_<;>intro h aa
 ·refine Ae (oL x ih id b N) (Z x.A) ⟨0,_,_,AA,AA,rfl,by unfold Py;rw[if_neg (by simpa using h)];rfl,rfl,Xs,?_,by simp[St.new,St.lay],by simp[St.new,St.lay],?_⟩ ?_
  ·unfold Py;rw[if_neg (by simpa using h)];exact Own.made (Xs) (by decide)
  ·unfold Py;rw[if_neg (by simpa using h)];exact EL.single ⟨_,rfl⟩
  rintro m s N' ⟨k,id3,xs,rfl,hk,h1,h3,h4,hK,hO,ho,am,hE⟩;have af:=EL.length Bb hE.o;simp only[AX,CV,EZ hk]at af;by_cases ac:k<Z x.A
  ·obtain⟨ia,r,hd⟩:=Cf hb (AJ ac)
   refine qd ?_;intro yd yb;intro idn Nn ai aj ab ae ak ad;refine pz ?_
   refine⟨Z x.A-(k+1),AA,k+1,idn,_,rfl,AA,by simp[upd,h1],rfl,AG,aj,by simpa[IW]using ai,by rw[ab];exact ho,AA,?_⟩;rw[AD,AU,AJ ac,<-CX];exact hE.o.append (EL.single ⟨_,rfl⟩)
  ·have ah:k=Z x.A:=AA;subst ah;rw[AS]at hE
   refine pz ?_
   first|exact⟨_,rfl,id3,xs,by simp[Af,Py],hE.o,hK⟩|exact⟨_,rfl,id3,xs,by simp[Af,Py],hE.o⟩
 ·refine Ae (oL x ih id b N) (Z x.A) ⟨0,_,_,AA,AA,rfl,by unfold Py;rw[if_pos (by simpa using h)];rfl,rfl,Xs,?_,by simp[St.new,St.lay],by simp[St.new,St.lay],?_⟩ ?_
  ·unfold Py;rw[if_pos (by simpa using h)];exact Own.nil _ _
  ·unfold Py;rw[if_pos (by simpa using h)];rfl
  rintro m s N' ⟨k,id3,xs,rfl,hk,h1,h3,h4,hK,hO,ho,am,hE⟩;have af:=EL.length Bb hE.o;simp only[AX,CV,EZ hk]at af;by_cases ac:k<Z x.A
  ·obtain⟨ia,r,hd⟩:=Cf hb (AJ ac)
   refine qd ?_;intro yd yb;intro idn Nn ai aj ab ae ak ad;refine pz ?_
   refine⟨Z x.A-(k+1),AA,k+1,idn,_,rfl,AA,by simp[upd,h1],rfl,AG,aj,by simpa[IW]using ai,by rw[ab];exact ho,AA,?_⟩;rw[AD,AU,AJ ac,<-CX];exact hE.o.append (EL.single ⟨_,rfl⟩)
  ·have ah:k=Z x.A:=AA;subst ah;rw[AS]at hE
   refine pz ?_
   first|exact⟨_,rfl,id3,xs,by simp[Af,Py],hE.o,hK⟩|exact⟨_,rfl,id3,xs,by simp[Af,Py],hE.o⟩
def PP (a:AC)(t:List UInt8)(k:Nat):Prop:=(a.A.take k).any (fun u=>!a.nt&&u==t)=false
def PQ (x:AB)(t:List UInt8)(j:Nat):Prop:=(x.A.take j).any (fun a=>a.A.any fun u=>!a.nt&&u==t)=false
def Iu (x:AB)(t:List UInt8):Bool:=x.A.any fun a=>a.A.any fun u=>!a.nt&&u==t
theorem A7 {l k}(h:k<Z l):(l.map str).drop k=str l[k]::(l.map str).drop (k+1):=by
 rw[FJ (by simpa using h)];simp
theorem sZ (x t c)(hc:AN x c)(hn:Z x.A<=100000)(ht:∀a∈x.A,Z a.A<=100000)(N):AF Tryz.prog 168 [ag c,str t] N fun r N'=>r=sc (.bool (Iu x t))/\AE N N':=by
 obtain⟨ih,id,b,hb,rfl⟩:=hc.cells;have ak:=EL.length Bb hb;refine Z9 45 [.tmp 4] Tryz.func168 ?_
 refine zz ?_
 refine Ae (fun m s N'=>∃j:Nat,m=Z x.A-j/\j<=Z x.A/\s 2=ptr N.B 0/\s 1=str t/\s 5=ic j/\N'=N.new (Bm x ih id b)/\PQ x t j) (Z x.A)
  ⟨0,AA,AA,rfl,rfl,rfl,rfl,by simp[PQ]⟩ ?_
 rintro m s N' ⟨j,rfl,hj,h2,h1,h5,rfl,ae⟩;by_cases af:j<Z x.A
 ·obtain⟨ia,r,hd⟩:=Cf hb (AJ af);have ac:=AJ af;have ai:=ht x.A[j] (AT af);generalize x.A[j]=a at hd ac ai;have HG:AD (x.A[j]?=some a):=ac;clear ac
  refine pz ?_
  refine Ae (fun m2 s N'=>∃k:Nat,m2=Z a.A-k/\k<=Z a.A/\s 2=ptr N.B 0/\s 1=str t/\s 5=ic j/\s 6=ic k/\N'=N.new (Bm x ih id b)/\PP a t k) (Z a.A)
   ⟨0,AA,AA,by simp[upd,h2],by simp[upd,h1],by simp[upd,h5],rfl,rfl,by simp[PP]⟩ ?_
  rintro m2 s2 N2 ⟨k,rfl,hk,g2,g1,g5,g6,rfl,aa⟩;by_cases ab:k<Z a.A
  ·have aj:=A7 ab
   repeat' first|refine Z1 ?_|refine Z8 fun yd yb=>?_|refine Z4 ?_;clear yb yd|refine Z2 ?_ ?_<;>intro h ad<;>try exact Xp|refine Z3 ?_|exact Zt|apply yb.o;clear yb yd
   ·exact⟨_,rfl,by rw[Iu,Ek _ HG.o (Ek _ (AJ ab) (by simp[*]))],Xs⟩
   all_goals exact⟨Z a.A-(k+1),AA,k+1,rfl,AA,by simp,by unfold PP at*;rw[any_take_succ _ (AJ ab),aa];simp[*]⟩
  ·have ah:k=Z a.A:=AA;subst ah
   refine pz ?_
   refine⟨Z x.A-(j+1),AA,j+1,rfl,AA,by simp,?_⟩;unfold PQ PP at*
   rw[AS]at aa;rw[any_take_succ _ HG.o,ae,aa];rfl
 ·have ah:j=Z x.A:=AA;subst ah
  refine pz ?_
  unfold PQ at ae;rw[AS]at ae;exact⟨_,rfl,by rw[Iu,ae],Xs⟩
def Te (x:AB)(t:List UInt8):Bool:=Ac t&&!Iu x t
def oF (x:AB)(a:AC):Bool:=a.A.any (Te x)
def Dx (x:AB):Bool:=!(Af x).any (oF x)
def OL (x:AB)(a:AC)(k:Nat):Prop:=(a.A.take k).any (Te x)=false
def PK (x:AB)(j:Nat):Prop:=((Af x).take j).any (oF x)=false
def AB.fits (x:AB):Prop:=Z x.A<=1000/\Z x.h.A<=1000/\∀a∈x.A,Z a.A<=1000
theorem Sq (x c)(hc:AN x c)(hx:x.fits)(N):AF Tryz.prog 113 [ag c] N fun r N'=>r=sc (.bool (Dx x))/\AE N N':=by
 have an:=hc;obtain⟨ih,id,b,hb,rfl⟩:=hc.cells;obtain⟨f1,f2,f3⟩:=hx;have f4:∀a∈x.A,Z a.A<=100000:=fun a ha=>by have:=f3 a ha;omega
 have a0:Z (Af x)<=1001:=by unfold Af;split<;>simp<;>omega
 have av:∀a∈Af x,Z a.A<=1000:=by
  intro a ha;unfold Af at ha;rw[AW]at ha;rcases ha with ha|ha
  ·split at ha
   ·cases ha
   ·simp at ha;subst ha;exact f2
  ·exact f3 a ha
 refine Z9 41 [.tmp 2] Tryz.func113 ?_
 refine qb ?_;intro yd yb;refine Xi (L5 _ _ an AA _) ?_;rintro _ _ ⟨ida,cs,rfl,hE,hK⟩;(have ko:=hK.C _ (by rw[Aa];exact Nat.lt_succ_self _);rw[Ao]at ko;have kn:=hK.B;rw[Aa]at kn);refine pz ?_
 have az:=EL.length Bb hE;rename_i N1;have ap:AE N N1:=((AE.refl N).new _).trans hK
 refine Ae (fun m s N'=>∃j:Nat,m=Z (Af x)-j/\j<=Z (Af x)/\s 1=ptr N.B 0/\s 3=sl ida (Z (Af x)) cs/\s 4=ic j/\AE N N'/\N'.C N.B=Bm x ih id b/\N.B<N'.B/\PK x j) (Z (Af x))
  ⟨0,AA,AA,rfl,rfl,rfl,ap,ko,AA,by simp[PK]⟩ ?_
 rintro m s N' ⟨j,rfl,hj,h1,h3,h4,ao,ak,am,ad⟩;clear hK ap ko kn;by_cases af:j<Z (Af x)
 ·obtain⟨ia,r,hd⟩:=Cf hE (AJ af);have ab:=AJ af;have au:=av (Af x)[j] (AT af);generalize (Af x)[j]=a at hd ab au;have HG:AD ((Af x)[j]?=some a):=ab;clear ab
  refine pz ?_
  refine Ae (fun m2 s N'=>∃k:Nat,m2=Z a.A-k/\k<=Z a.A/\s 1=ptr N.B 0/\s 3=sl ida (Z (Af x)) cs/\s 4=ic j/\s 5=ic k/\AE N N'/\N'.C N.B=Bm x ih id b/\N.B<N'.B/\OL x a k) (Z a.A)
   ⟨0,AA,AA,by simp[upd,h1],by simp[upd,h3],by simp[upd,h4],rfl,ao,ak,am,by simp[OL]⟩ ?_
  rintro m2 s2 N2 ⟨k,rfl,hk,g1,g3,g4,g5,aw,ay,hnt,aa⟩;clear ao ak am;by_cases ae:k<Z a.A
  ·have ax:=A7 ae
   repeat' first|refine Z1 ?_|refine Z8 fun yd yb=>?_|refine Z4 ?_;clear yb yd|refine Z2 ?_ ?_<;>intro h ac<;>try exact Xp|(refine Z5 ?_;first|(refine Xi (Dt _ _) ?_;rintro _ _ ⟨rfl,rfl⟩)|(refine Xi (sZ _ _ _ an AA f4 _) ?_;rintro _ _ ⟨rfl,aj⟩;(have kb:=aj.C _ hnt;have knb:=aj.B)))|refine Z3 ?_|exact Zt|apply yb.o;clear yb yd
   all_goals
    have ai:=AJ ae
    first
    |exact⟨_,rfl,by rw[Dx,Ek _ HG.o (Ek (Te x) ai (by simp[Te, *]))];rfl,Xs⟩
    |exact⟨Z a.A-(k+1),AA,k+1,rfl,AA,by simp,aw.trans aj,AA,by unfold OL at*;rw[any_take_succ _ ai,aa];simp[Te, *]⟩
    |exact⟨Z a.A-(k+1),AA,k+1,rfl,AA,by simp,by unfold OL at*;rw[any_take_succ _ ai,aa];simp[Te, *]⟩
  ·have ah:k=Z a.A:=AA;subst ah
   refine pz ?_
   refine⟨Z (Af x)-(j+1),AA,j+1,rfl,AA,by simp,?_⟩;unfold PK OL at*
   rw[AS]at aa;rw[any_take_succ _ HG.o,ad,oF,aa];rfl
 ·have ah:j=Z (Af x):=AA;subst ah
  refine pz ?_
  unfold PK at ad;rw[AS]at ad
  first
  |exact⟨_,rfl,by rw[Dx,ad];rfl,Xs⟩
  |exact⟨_,rfl,by rw[Dx,ad];rfl⟩
def J6:BC:=⟨0,0,0,0,0,0,false⟩
def A9 (X:BC)(c:UInt8):BC×Bool:=
 if decide (5<=X.st)=true/\decide (X.st<=8)=true then Ec X c.toNat else Cy X c.toNat
def M6:BC->List UInt8->Nat->BC×Option Nat
 |X,[],_=>(X,none)
 |X,c::r,i=>if (A9 X c).2=true then M6 (A9 X c).1 r (i+1)else ((A9 X c).1,some i)
def Fc (s:List UInt8):Int:=
 match (M6 J6 s 0).2 with
 |some i=>i
 |none=>if (M6 J6 s 0).1.st !=0 then Z s else -1
def BC.upto (X:BC)(k:Nat):Prop:=X.items<=k/\X.letters<=k+1/\X.digits<=k+1/\X.A<=k+1/\X.lits<=k+1/\0<=X.items/\0<=X.letters/\0<=X.digits/\0<=X.A/\0<=X.lits
theorem aP {X k}(h:X.upto k)(c):(A9 X c).1.upto (k+1):=by
 obtain⟨h1,h2,h3,h4,h5,h6,h7,h8,h9,aa⟩:=h;unfold A9 Ec Cy BC.upto
 repeat' split
 all_goals (simp only[];((repeat' first|constructor|split<;>omega|omega)))
theorem pX {X:BC}{k}(h:X.upto k)(hk:k<=10000):X.small:=by
 obtain⟨h1,h2,h3,h4,h5,h6,h7,h8,h9,aa⟩:=h;exact⟨AA,AA,AA,AA,AA,h6,h7,h8,h9,aa⟩
def iB (l:List UInt8)(k:Nat)(X:BC):Prop:=M6 J6 l 0=M6 X (l.drop k) k
theorem Oc {l k X}(h:k<Z l):M6 X (l.drop k) k=if (A9 X l[k]).2=true then M6 (A9 X l[k]).1 (l.drop (k+1)) (k+1)else ((A9 X l[k]).1,some k):=by
 rw[FJ h];rfl
theorem Pz (l)(hb:Z l<=1000)(N):AF Tryz.prog 104 [str l] N fun x N'=>x=ic (Fc l)/\AE N N':=by
 refine Z9 46 [.tmp 2] Tryz.func104 ?_
 refine zz ?_
 refine Ae (fun m s N'=>∃(k:Nat) (X:BC),m=Z l-k/\k<=Z l/\s 0=str l/\s 3=ptr N.B 0/\s 4=ic k/\AE N N'/\N'.C N.B=Kb X/\N.B<N'.B/\X.upto k/\iB l k X) (Z l)
  ⟨0,J6,AA,AA,rfl,rfl,rfl,Xs,by simp[St.new];rfl,by simp[St.new],by simp[BC.upto,J6],rfl⟩ ?_
 rintro m s N' ⟨k,X,rfl,hk,h0,h3,h4,hK,ho,hn,hu,hp⟩;have ad:=pX hu AA;have ae:=ho;unfold Kb at ho;by_cases ab:k<Z l
 ·have ai:=AJ ab
  repeat' first|refine Z1 ?_|refine Z8 fun yd yb=>?_|refine Z4 ?_;clear yb yd|refine Z2 ?_ ?_<;>intro h ac<;>try exact Xp|(refine Z5 ?_;first|(refine Xi (sA _ X ad _ _ ae) ?_;rintro _ _ ⟨rfl,af,aa⟩;(have kin:=aa.B))|(refine Xi (rF _ X ad _ _ ae) ?_;rintro _ _ ⟨rfl,af,aa⟩;(have kin:=aa.B)))|refine Z3 ?_|exact Zt|apply yb.o;clear yb yd
  all_goals
   first
   |(have hs:A9 X l[k]=Ec X l[k].toNat:=by simp[A9, *]
     first
     |exact⟨_,rfl,by rw[Fc,show M6 J6 l 0=_ from hp,Oc ab,hs,h];rfl,AP.keep hK aa (AR _)⟩
     |exact⟨Z l-(k+1),AA,k+1,_,rfl,AA,by simp,AP.keep hK aa (AR _),rfl,AA,by rw[<-hs];exact aP hu _,by rw[iB,show M6 J6 l 0=_ from hp,Oc ab,hs,h];rfl⟩)
   |(have hs:A9 X l[k]=Cy X l[k].toNat:=by simp only[A9, *,ER,false_and,and_false,↓reduceIte]
     first
     |exact⟨_,rfl,by rw[Fc,show M6 J6 l 0=_ from hp,Oc ab,hs,h];rfl,AP.keep hK aa (AR _)⟩
     |exact⟨Z l-(k+1),AA,k+1,_,rfl,AA,by simp,AP.keep hK aa (AR _),rfl,AA,by rw[<-hs];exact aP hu _,by rw[iB,show M6 J6 l 0=_ from hp,Oc ab,hs,h];rfl⟩)
 ·have ah:k=Z l:=AA;subst ah;have hr:M6 J6 l 0=(X,none):=by rw[show M6 J6 l 0=_ from hp,JZ];rfl
  have HR:AD _:=hr;clear hr
  refine qe ?_ ?_<;>intro h ac
  all_goals
   have hr:=HR.o
   first
   |exact⟨_,rfl,by simp[Fc,hr, *],hK⟩
   |exact⟨_,rfl,by simp[Fc,hr, *]⟩
   |exact⟨_,rfl,by simp[Fc,hr];simpa using h⟩
def Ej (M:Nat->Nat->Bool):List AV:=(List.range 256).map fun n=>sc (.bool (M (n / 16) (n % 16)))
def set2 (M:Nat->Nat->Bool)(i k:Nat)(v:Bool):Nat->Nat->Bool:=fun a b=>if a=i/\b=k then v else M a b
theorem Fa (M):Z (Ej M)=256:=by simp[Ej]
theorem Nq (M){i k}(hi:i<16)(hk:k<16):(Ej M)[i*16+k]?=some (sc (.bool (M i k))):=by
 have h1:i*16+k<256:=AA;have h2:(i*16+k) / 16=i:=AA;have h3:(i*16+k) % 16=k:=AA;simp[Ej,h1,h2,h3]
theorem Yn (M){i k}(hi:i<16)(hk:k<16)(v):(Ej M).set (i*16+k) (sc (.bool v))=Ej (set2 M i k v):=by
 apply FS;intro n;rw[GK];by_cases hn:n<256
 ·by_cases he:i*16+k=n
  ·subst he;have h2:(i*16+k) / 16=i:=AA;have h3:(i*16+k) % 16=k:=AA;simp[Ej,hn,h2,h3,set2]
  ·have:¬(n / 16=i/\n % 16=k):=AA;simp[Ej,hn,he,set2,this]
 ·have:i*16+k≠n:=AA;simp[Ej,hn,this]
theorem dZ:Lb 256 (.bool false)=Ej fun _ _=>false:=by
 apply FS;intro n;by_cases hn:n<256
 ·simp only[Ej,Lb,cst1,List.getElem?_replicate,EY,List.getElem?_range hn,GZ,hn,if_true]
 ·simp only[Lb,List.getElem?_replicate,if_neg hn];rw[FK (by rw[Fa];omega)]
theorem Ds {l cs i x}(h:EL AN l cs)(hi:l[i]?=some x):∃ih id b r,EL Bo x.A b/\cs.drop (i*5)=sc (.bool x.o)::sc (.bool x.h.nt)::str x.h.B::sl ih (Z x.h.A) (x.h.A.map str)::sl id (Z x.A) b::r:=by
 obtain⟨c,r,hc,e⟩:=EL.get Cj h hi;obtain⟨ih,id,b,hb,rfl⟩:=hc.cells;exact⟨ih,id,b,r,hb,e⟩
def Mm (l:List AB)(i k:Nat):Bool:=
 match l[i]?,l[k]? with
 |some x,some y=>!y.o&&x.A.any fun a=>a.B==y.h.B
 |_,_=>false
def T4 (l:List AB)(i k:Nat)(M:Nat->Nat->Bool):Prop:=∀a b,M a b=if (a<i/\b<Z l)\/(a=i/\b<k)then Mm l a b else false
theorem F3 {l xs}(h:Z xs=Z l):lsp l 0 xs=xs:=by
 rw[Hc _ _ _ AA,EJ,h,JZ];simp
def fw (M:Nat->Nat->Bool)(m:Nat):Nat->Nat->Bool:=fun i k=>M i k||(M i m&&M m k)
def PG (n:Nat)(M:Nat->Nat->Bool)(m:Nat):Nat->Nat->Bool:=fun i k=>if i<n/\k<n then fw M m i k else M i k
def Hw (n:Nat)(M:Nat->Nat->Bool):Nat->Nat->Nat->Bool
 |0=>M
 |m+1=>PG n (Hw n M m) m
def part (n:Nat)(M:Nat->Nat->Bool)(m i k:Nat)(W:Nat->Nat->Bool):Prop:=∀a b,W a b=if (a<i/\b<n)\/(a=i/\b<k)then fw M m a b else M a b
def I0 (l:List AB):Nat->Nat->Bool:=Hw (Z l) (fun a b=>if a<Z l/\b<Z l then Mm l a b else false) (Z l)
theorem W6 {n M W m i k}(h:part n M m i k W)(hk:k<n)(hm:m<n):W i k=M i k/\W i m=M i m/\W m k=M m k:=by
 refine⟨?_,?_,?_⟩
 ·rw[h,if_neg AA]
 ·rw[h];split
  ·unfold fw;cases M i m<;>simp
  ·rfl
 ·rw[h];split
  ·unfold fw;cases M m k<;>simp
  ·rfl
theorem mA {n M W m i k}(h:part n M m i k W){v}(hv:v=fw M m i k):part n M m i (k+1) (set2 W i k v):=by
 intro a b;unfold set2;by_cases aa:a=i/\b=k
 ·obtain⟨rfl,rfl⟩:=aa;rw[if_pos ⟨rfl,rfl⟩,if_pos AA];exact hv
 ·rw[if_neg aa,h];by_cases hc:(a<i/\b<n)\/(a=i/\b<k)
  ·rw[if_pos hc,if_pos AA]
  ·rw[if_neg hc,if_neg AA]
theorem mB {n M W m i}(h:part n M m i n W):part n M m (i+1) 0 W:=by
 intro a b;rw[h];by_cases hc:(a<i/\b<n)\/(a=i/\b<n)
 ·rw[if_pos hc,if_pos AA]
 ·rw[if_neg hc,if_neg AA]
theorem dA {n M m}:part n M m 0 0 M:=by intro a b;rw[if_neg AA]
theorem mC {n M W m}(h:part n M m n 0 W):W=PG n M m:=by
 funext a b;rw[h];unfold PG;by_cases hc:a<n/\b<n
 ·rw[if_pos AA,if_pos hc]
 ·rw[if_neg AA,if_neg hc]
theorem nF {l M i k}(h:T4 l i k M)(v)(hv:v=Mm l i k):T4 l i (k+1) (set2 M i k v):=by
 intro a b;unfold set2;by_cases aa:a=i/\b=k
 ·obtain⟨rfl,rfl⟩:=aa;rw[if_pos ⟨rfl,rfl⟩,if_pos AA];exact hv
 ·rw[if_neg aa,h];by_cases hc:(a<i/\b<Z l)\/(a=i/\b<k)
  ·rw[if_pos hc,if_pos AA]
  ·rw[if_neg hc,if_neg AA]
theorem mu {l M i}(h:T4 l i (Z l) M):T4 l (i+1) 0 M:=by
 intro a b;rw[h];by_cases hc:(a<i/\b<Z l)\/(a=i/\b<Z l)
 ·rw[if_pos hc,if_pos AA]
 ·rw[if_neg hc,if_neg AA]
theorem XW {l M}(h:T4 l (Z l) 0 M):M=fun a b=>if a<Z l/\b<Z l then Mm l a b else false:=by
 funext a b;rw[h];by_cases hc:a<Z l/\b<Z l
 ·rw[if_pos AA,if_pos hc]
 ·rw[if_neg AA,if_neg hc]
theorem iS (l cs idl)(hE:EL AN l cs)(hl:Z l<=16)(hf:∀x∈l,x.fits)(N):AF Tryz.prog 170 [sl idl (Z l) cs] N fun r N'=>r=ag (Ej (I0 l))/\AE N N':=by
 have a3:=EL.length Cj hE;have aw:=Fa;refine Z9 86 [.cell 2 220] Tryz.func170 ?_
 refine zz ?_
 refine Ae (fun m s N'=>∃(i:Nat) (M:Nat->Nat->Bool),m=Z l-i/\i<=Z l/\s 0=sl idl (Z l) cs/\s 2=ptr N.B 0/\s 3=ptr (N.B+1) 0/\s 4=ic i/\AE N N'/\N'.C (N.B+1)=Ej M/\N.B+1<N'.B/\Z (N'.C N.B)=256/\T4 l i 0 M) (Z l)
  ⟨0,fun _ _=>false,AA,AA,rfl,rfl,rfl,rfl,Xs,by rw[Bg (by rw[Aa];exact AR _) (by rw[Aa];exact AR _),dZ],by simp[Aa],by rw[Ah (by rw[Aa];omega),Ao,dZ,Fa],by simp[T4]⟩ ?_
 rintro m s N' ⟨i,M,rfl,hi,h0,h2,h3,h4,hK,ho,hn,hr,hM⟩;by_cases ac:i<Z l
 ·refine pz ?_
  refine Ae (fun m s N'=>∃(k:Nat) (M:Nat->Nat->Bool),m=Z l-k/\k<=Z l/\s 0=sl idl (Z l) cs/\s 2=ptr N.B 0/\s 3=ptr (N.B+1) 0/\s 4=ic i/\s 5=ic k/\AE N N'/\N'.C (N.B+1)=Ej M/\N.B+1<N'.B/\Z (N'.C N.B)=256/\T4 l i k M) (Z l)
   ⟨0,M,AA,AA,by simp[upd,h0],by simp[upd,h2],by simp[upd,h3],by simp[upd,h4],rfl,hK,ho,hn,hr,hM⟩ ?_
  clear hK ho hn hr hM;rintro m s N' ⟨k,M,rfl,hk,h0,h2,h3,h4,h5,hK,ho,hn,hr,hM⟩;by_cases ab:k<Z l
  ·obtain⟨ih1,id1,b1,r1,am,a0⟩:=Ds hE (AJ ac);obtain⟨ih2,id2,b2,r2,a4,az⟩:=Ds hE (AJ ab);have ak:=hf l[i] (AT ac)
   refine pz ?_
   refine Ay Ag (fun _=>True) [23] [0,1,2,3,4,5,6,7,8,9,10,11,12,13,14,15,16,17,18,21] [19,20,22,23] AH (fun _ _ _ h=>h) ?_;intro yd yb;refine Z3 ?_
   repeat' first|refine Z1 ?_|refine Z8 fun yd yb=>?_|refine Z4 ?_;clear yb yd|refine Z2 ?_ ?_<;>intro h aa<;>try exact Xp|refine Z5 ?_;refine Xi (rL _ _ _ (AN.of am) (by have:=ak.1;omega) _) ?_;rintro _ _ ⟨rfl,af⟩;(have au:=af.C;have av:=af.B)|refine Z3 ?_|exact Zt|apply yb.o;clear yb yd
   ·exact⟨Z l-(k+1),AA,k+1,_,rfl,AA,by simp,(hK.trans af).put AA _,Yn M AA AA _,AA,nF hM _ (by simp[Mm,ac,ab, *])⟩
   ·exact⟨Z l-(k+1),AA,k+1,_,rfl,AA,by simp,hK.put AA _,Yn M AA AA _,nF hM _ (by simp[Mm,ac,ab, *])⟩
  ·have ae:k=Z l:=AA;subst ae
   refine pz ?_
   exact⟨Z l-(i+1),AA,i+1,M,rfl,AA,by simp,rfl,mu hM⟩
 ·have hil:i=Z l:=AA;subst hil;have an:=XW hM;subst an;clear hM
  refine p7 ?_;intro h aa
  generalize ai:(fun (a b:Nat)=>if a<Z l/\b<Z l then Mm l a b else false)=M0 at ho;have ap:AD _:=ai;clear ai
  refine Ae (fun q s N'=>∃m:Nat,q=Z l-m/\m<=Z l/\s 0=sl idl (Z l) cs/\s 2=ptr N.B 0/\s 3=ptr (N.B+1) 0/\s 6=ic m/\AE N N'/\N'.C (N.B+1)=Ej (Hw (Z l) M0 m)/\N.B+1<N'.B/\Z (N'.C N.B)=256) (Z l)
   ⟨0,AA,AA,by simp[upd,h0],by simp[upd,h2],by simp[upd,h3],rfl,hK,ho,hn,hr⟩ ?_
  clear hK ho hn hr h0 h2 h3 h4 h aa ac hi;rintro q s N' ⟨m,rfl,hm,h0,h2,h3,h6,hK,ho,hn,hr⟩;by_cases ac:m<Z l
  ·generalize ah:Hw (Z l) M0 m=M at ho;have ao:AD _:=ah;clear ah
   refine pz ?_
   refine Ae (fun q s N'=>∃(i:Nat) (W:Nat->Nat->Bool),q=Z l-i/\i<=Z l/\s 0=sl idl (Z l) cs/\s 2=ptr N.B 0/\s 3=ptr (N.B+1) 0/\s 6=ic m/\s 7=ic i/\AE N N'/\N'.C (N.B+1)=Ej W/\N.B+1<N'.B/\Z (N'.C N.B)=256/\part (Z l) M m i 0 W) (Z l)
    ⟨0,M,AA,AA,by simp[upd,h0],by simp[upd,h2],by simp[upd,h3],by simp[upd,h6],rfl,hK,ho,hn,hr,dA⟩ ?_
   clear hK ho hn hr h0 h2 h3 h6;rintro q s N' ⟨i,W,rfl,hi,h0,h2,h3,h6,h7,hK,ho,hn,hr,hW⟩;by_cases ab:i<Z l
   ·refine pz ?_
    refine Ae (fun q s N'=>∃(k:Nat) (W:Nat->Nat->Bool),q=Z l-k/\k<=Z l/\s 0=sl idl (Z l) cs/\s 2=ptr N.B 0/\s 3=ptr (N.B+1) 0/\s 6=ic m/\s 7=ic i/\s 8=ic k/\AE N N'/\N'.C (N.B+1)=Ej W/\N.B+1<N'.B/\Z (N'.C N.B)=256/\part (Z l) M m i k W) (Z l)
     ⟨0,W,AA,AA,by simp[upd,h0],by simp[upd,h2],by simp[upd,h3],by simp[upd,h6],by simp[upd,h7],rfl,hK,ho,hn,hr,hW⟩ ?_
    clear hK ho hn hr h0 h2 h3 h6 h7 hW;rintro q s N' ⟨k,W,rfl,hk,h0,h2,h3,h6,h7,h8,hK,ho,hn,hr,hW⟩;by_cases ad:k<Z l
    ·obtain⟨v1,v2,v3⟩:=W6 hW ad ac;have g1:=Nq W (i:=i) (k:=k) AA AA;have g2:=Nq W (i:=i) (k:=m) AA AA;have g3:=Nq W (i:=m) (k:=k) AA AA;have HV:AD (W i k=M i k/\W i m=M i m/\W m k=M m k):=⟨v1,v2,v3⟩;clear v1 v2 v3
     refine pz ?_
     refine Ay Ag (fun _=>True) [23] [0,1,2,3,4,5,6,7,8,9,10,11,12,13,14,15,16,17,18,19,20,21] [22,23] AH (fun _ _ _ h=>h) ?_;intro yd yb;refine Z3 ?_
     repeat' first|refine Z1 ?_|refine Z8 fun yd yb=>?_|refine Z4 ?_;clear yb yd|refine Z2 ?_ ?_<;>intro h aa<;>try exact Xp|refine Z3 ?_|exact Zt|apply yb.o;clear yb yd
     all_goals exact⟨Z l-(k+1),AA,k+1,_,rfl,AA,by simp,hK.put AA _,Yn W AA AA _,mA hW (by have hv:=HV.o;simp_all [fw])⟩
    ·have ae:k=Z l:=AA;subst ae
     refine pz ?_
     exact⟨Z l-(i+1),AA,i+1,W,rfl,AA,by simp,rfl,mB hW⟩
   ·have hil:i=Z l:=AA;subst hil
    refine pz ?_
    refine⟨Z l-(m+1),AA,m+1,rfl,AA,by simp,?_⟩;rw[mC hW,<-ao.o];rfl
  ·have aj:m=Z l:=AA;subst aj;have ax:∀M,List.take 256 (Ej M)=Ej M:=fun M=>FW (by rw[Fa];exact AR _);have ay:∀M,lsp (N'.C N.B) 0 (Ej M)=Ej M:=fun M=>F3 (by rw[Fa,hr])
   refine pz ?_
   exact⟨_,rfl,by rw[I0,ap.o],hK.put (AR _) _⟩
end Go.Proofs.YtmoeoppbmhfbpabGreatDoorI
