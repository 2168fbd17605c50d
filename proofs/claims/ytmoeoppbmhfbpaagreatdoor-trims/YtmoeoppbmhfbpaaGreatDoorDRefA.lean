import Derived.Test.YtmoeoppbmhfbpaaGreatDoorDFacts
set_option maxHeartbeats 16000000
set_option maxRecDepth 100000
set_option linter.all false
namespace Go.Proofs.YtmoeoppbmhfbpaaGreatDoorD
open Go.Abs
def Bn (c:Int):Bool:=decide (97<=c)&&decide (c<=122)
def Bo (c:Int):Bool:=decide (65<=c)&&decide (c<=90)
def F7 (c:Int):Bool:=decide (49<=c)&&decide (c<=57)
theorem T1 (c:Int)(N:St):ACalls Tryz.prog 221 [sc (.int .u8 c)] N fun x N'=>x=sc (.bool (Bn c))/\N'=N:=by
 refine Z9 9 [.tmp 2] Tryz.func221 ?_
 repeat' first|refine Z1 ?_|refine Z8 fun ya J=>?_|refine Z4 ?_;clear J ya|refine Z2 ?_ ?_<;>intro h aa<;>try exact Xp|refine Z3 ?_|exact Zt|apply J.out;clear J ya
 all_goals exact⟨_,rfl,by simp[Bn, *]⟩
theorem N6 (c:Int)(N:St):ACalls Tryz.prog 185 [sc (.int .u8 c)] N fun x N'=>x=sc (.bool (Bo c))/\N'=N:=by
 refine Z9 9 [.tmp 2] Tryz.func185 ?_
 repeat' first|refine Z1 ?_|refine Z8 fun ya J=>?_|refine Z4 ?_;clear J ya|refine Z2 ?_ ?_<;>intro h aa<;>try exact Xp|refine Z3 ?_|exact Zt|apply J.out;clear J ya
 all_goals exact⟨_,rfl,by simp[Bo, *]⟩
theorem rT (c:Int)(N:St):ACalls Tryz.prog 223 [sc (.int .u8 c)] N fun x N'=>x=sc (.bool (F7 c))/\N'=N:=by
 refine Z9 9 [.tmp 2] Tryz.func223 ?_
 repeat' first|refine Z1 ?_|refine Z8 fun ya J=>?_|refine Z4 ?_;clear J ya|refine Z2 ?_ ?_<;>intro h aa<;>try exact Xp|refine Z3 ?_|exact Zt|apply J.out;clear J ya
 all_goals exact⟨_,rfl,by simp[F7, *]⟩
structure Scan where
 st:Int
 items:Int
 letters:Int
 digits:Int
 terms:Int
 lits:Int
 head:Bool
def Iy (X:Scan):List AV:=[sc (.int .i64 X.st),sc (.int .i64 X.items),sc (.int .i64 X.letters),sc (.int .i64 X.digits),sc (.int .i64 X.terms),sc (.int .i64 X.lits),sc (.bool X.head)]
theorem oO (o:Nat)(st:Int)(a:AV)(r:List AV)(N:St)(h:N.obj o=a::r):ACalls Tryz.prog 222 [ptr o 0,sc (.int .i64 st)] N fun x N'=>x=sc (.bool true)/\N'=N.put o (sc (.int .i64 st)::r):=by
 refine Z9 9 [.tmp 4] Tryz.func222 ?_
 refine zz ?_
 first|exact⟨_,rfl,rfl,rfl⟩|exact⟨_,rfl,rfl⟩
structure KeepX (o:Nat)(N N':St):Prop where
 nobj:N.nobj<=N'.nobj
 obj:∀p,p<N.nobj->p≠o->N'.obj p=N.obj p
 ver:∀p,p<N.nobj->p≠o->N'.ver p=N.ver p
 ntop:N.ntop<=N'.ntop
 top:∀k,k<N.ntop->N'.top k=N.top k
theorem KeepX.refl (o:Nat)(N:St):KeepX o N N:=⟨Adc _,fun _ _ _=>rfl,fun _ _ _=>rfl,Adc _,fun _ _=>rfl⟩
theorem KeepX.put {o:Nat}{N N':St}(h:KeepX o N N')(cs:List AV):KeepX o N (N'.put o cs):=
 ⟨h.nobj,fun p hp aa=>by simp[St.put,aa];exact h.obj p hp aa,fun p hp aa=>by simp[St.put,aa];exact h.ver p hp aa,h.ntop,h.top⟩
theorem KeepX.trans {o:Nat}{a b c:St}(h:KeepX o a b)(k:KeepX o b c):KeepX o a c:=
 ⟨Ade h.nobj k.nobj,fun p hp aa=>(k.obj p (Adf hp h.nobj) aa).trans (h.obj p hp aa),fun p hp aa=>(k.ver p (Adf hp h.nobj) aa).trans (h.ver p hp aa),
  Ade h.ntop k.ntop,fun j hj=>(k.top j (Adf hj h.ntop)).trans (h.top j hj)⟩
theorem KeepX.keep {o:Nat}{a b c:St}(h:Keep a b)(k:KeepX o b c)(ho:a.nobj<=o):Keep a c:=
 ⟨Ade h.nobj k.nobj,fun p hp=>(k.obj p (Adf hp h.nobj) Agm).trans (h.obj p hp),fun p hp=>(k.ver p (Adf hp h.nobj) Agm).trans (h.ver p hp),
  Ade h.ntop k.ntop,fun j hj=>(k.top j (Adf hj h.ntop)).trans (h.top j hj)⟩
def Dn (X:Scan)(c:Int):Scan×Bool:=
 if (X.st==5)=true then
  if Bn c=true/\decide (X.letters<6)=true then ({X with letters:=X.letters+1},true)
  else if (c==40)=true then ({X with terms:=0,st:=6},true)else ({X with terms:=0},false)
 else if (X.st==6)=true then
  if F7 c=true then ({X with terms:=X.terms+1,digits:=1,st:=7},true)
  else if Bo c=true\/(c==48)=true then ({X with terms:=X.terms+1,digits:=1,st:=8},true)else ({X with terms:=X.terms+1,digits:=1},false)
 else if (X.st==7)=true/\decide (X.digits<3)=true/\(F7 c=true\/(c==48)=true)then ({X with digits:=X.digits+1},true)
 else if (c==41)=true then ({X with lits:=if (!X.head)=true then X.lits+1 else X.lits,st:=9},true)
 else if (c==44)=true/\decide (X.terms<3)=true then ({X with st:=6},true)else (X,false)
def Cs (X:Scan)(c:Int):Scan×Bool:=
 if (X.st==0)=true then
  if (X.items==16)=true then (X,false)
  else if (c==63)=true then ({X with head:=true,letters:=0,lits:=0,st:=1},true)
  else if Bn c=true then ({X with head:=true,letters:=1,lits:=0,st:=5},true)else ({X with head:=true,letters:=1,lits:=0},false)
 else if (X.st==1)=true\/(X.st==2)=true then
  if Bn c=true/\decide (X.letters<6)=true then ({X with letters:=X.letters+1,st:=2},true)
  else if (c==46)=true/\(X.st==2)=true then ({X with items:=X.items+1,st:=0},true)else (X,false)
 else if (X.st==3)=true\/(X.st==4)=true then
  if (c==33)=true/\(X.st==3)=true then ({X with letters:=1,st:=4},true)
  else if Bn c=true then ({X with letters:=1,st:=5},true)else ({X with letters:=1},false)
 else if (X.st==10)=true then
  if (c==45)=true then ({X with head:=false,st:=3},true)else ({X with head:=false},false)
 else if (c==46)=true then ({X with items:=X.items+1,st:=0},true)
 else if (c==58)=true/\X.head=true then ({X with st:=10},true)
 else if (c==44)=true/\(!X.head)=true/\decide (X.lits<5)=true then ({X with st:=3},true)else (X,false)
def Scan.small (X:Scan):Prop:=X.items<=100000/\X.letters<=100000/\X.digits<=100000/\X.terms<=100000/\X.lits<=100000/\0<=X.items/\0<=X.letters/\0<=X.digits/\0<=X.terms/\0<=X.lits
theorem mC (o:Nat)(X:Scan)(hX:X.small)(c:Int)(N:St)(h:N.obj o=Iy X):
  ACalls Tryz.prog 174 [ptr o 0,sc (.int .u8 c)] N fun x N'=>x=sc (.bool (Dn X c).2)/\N'.obj o=Iy (Dn X c).1/\KeepX o N N':=by
 obtain⟨b1,b2,b3,b4,b5,b6,b7,b8,b9,b10⟩:=hX;obtain⟨st,items,letters,digits,terms,lits,head⟩:=X;unfold Iy at*
 simp only at*
 refine Z9 118 [.tmp 4] Tryz.func174 ?_
 repeat' first|refine Z1 ?_|refine Z8 fun ya J=>?_|refine Z4 ?_;clear J ya|refine Z2 ?_ ?_<;>intro h aa<;>try exact Xp|(refine Z5 ?_;first|(refine Xi (T1 _ _) ?_;rintro _ _ ⟨rfl,rfl⟩)|(refine Xi (rT _ _) ?_;rintro _ _ ⟨rfl,rfl⟩)|(refine Xi (N6 _ _) ?_;rintro _ _ ⟨rfl,rfl⟩)|(refine Xi (oO _ _ _ _ _ (by first|assumption|(simp only[Aj];rfl))) ?_;rintro _ _ ⟨rfl,rfl⟩))|refine Z3 ?_|exact Zt|apply J.out;clear J ya
 all_goals exact⟨_,rfl,by simp only[Dn, *,↓reduceIte,Aei,and_self,or_self,Agi,and_true,true_or,or_true,false_or,Agj,and_false,false_and,reduceCtorEq,if_true,if_false,Agg,Agh,Aej,Aen],by simp only[Dn, *,↓reduceIte,Aei,and_self,or_self,Agi,and_true,true_or,or_true,false_or,Agj,and_false,false_and,reduceCtorEq,if_true,if_false,Agg,Agh,Aej,Aen],by repeat (first|exact KeepX.refl _ _|apply KeepX.put)⟩
theorem lQ (o:Nat)(X:Scan)(hX:X.small)(c:Int)(N:St)(h:N.obj o=Iy X):
  ACalls Tryz.prog 175 [ptr o 0,sc (.int .u8 c)] N fun x N'=>x=sc (.bool (Cs X c).2)/\N'.obj o=Iy (Cs X c).1/\KeepX o N N':=by
 obtain⟨b1,b2,b3,b4,b5,b6,b7,b8,b9,b10⟩:=hX;obtain⟨st,items,letters,digits,terms,lits,head⟩:=X;unfold Iy at*
 simp only at*
 refine Z9 154 [.tmp 4] Tryz.func175 ?_
 repeat' first|refine Z1 ?_|refine Z8 fun ya J=>?_|refine Z4 ?_;clear J ya|refine Z2 ?_ ?_<;>intro h aa<;>try exact Xp|(refine Z5 ?_;first|(refine Xi (T1 _ _) ?_;rintro _ _ ⟨rfl,rfl⟩)|(refine Xi (oO _ _ _ _ _ (by first|assumption|(simp only[Aj];rfl))) ?_;rintro _ _ ⟨rfl,rfl⟩))|refine Z3 ?_|exact Zt|apply J.out;clear J ya
 all_goals exact⟨_,rfl,by simp only[Cs, *,↓reduceIte,Aei,and_self,or_self,Agi,and_true,true_or,or_true,false_or,Agj,and_false,false_and,reduceCtorEq,if_true,if_false,Agg,Agh,Aej,Aen],by simp only[Cs, *,↓reduceIte,Aei,and_self,or_self,Agi,and_true,true_or,or_true,false_or,Agj,and_false,false_and,reduceCtorEq,if_true,if_false,Agg,Agh,Aej,Aen],by repeat (first|exact KeepX.refl _ _|apply KeepX.put)⟩
def Bp (l:List UInt8)(c:Int):Nat:=l.findIdx fun x=>(x.toNat:Int)==c
theorem Pk (l:List UInt8)(c:Int):Bp l c<=l.length:=List.findIdx_le_length
theorem sI (l:List UInt8)(c:Int)(k:Nat)(hk:k<l.length)(hn:∀(j:Nat),j<k->∀(x:UInt8),l[j]?=some x->((x.toNat:Int)==c)=false)(hc:((l[k].toNat:Int)==c)=true):Bp l c=k:=by
 unfold Bp;rw[List.findIdx_eq hk];exact⟨hc,fun j hj=>hn j hj _ (Adn _)⟩
theorem U7 (l:List UInt8)(c:Int)(hn:∀(j:Nat),j<l.length->∀(x:UInt8),l[j]?=some x->((x.toNat:Int)==c)=false):Bp l c=l.length:=by
 unfold Bp;rw[List.findIdx_eq_length];intro x hx;obtain⟨j,hj,he⟩:=List.mem_iff_getElem.1 hx;exact hn j hj x (by rw[<-he];exact Adn _)
theorem Jy (l:List UInt8)(c:Int)(hb:l.length<=100000)(N:St):ACalls Tryz.prog 99 [str l,sc (.int .u8 c)] N fun x N'=>x=sc (.int .i64 (Bp l c))/\N'=N:=by
 refine Z9 20 [.tmp 4] Tryz.func99 ?_
 repeat' first|refine Z1 ?_|refine Z8 fun ya J=>?_|refine Z4 ?_;clear J ya|refine Z2 ?_ ?_<;>intro h aa<;>try exact Xp|refine Z3 ?_|exact Zt|apply J.out;clear J ya
 refine Ad (fun m s N'=>∃k:Nat,m=l.length-k/\k<=l.length/\s 0=str l/\s 1=sc (.int .u8 c)/\s 5=sc (.int .i64 k)/\N'=N/\
  ∀(j:Nat),j<k->∀(x:UInt8),l[j]?=some x->((x.toNat:Int)==c)=false) l.length ⟨0,Agm,Agm,rfl,rfl,rfl,rfl,fun j h=>Agm⟩ ?_
 rintro m s N' ⟨k,rfl,hk,h0,h1,h5,rfl,ab⟩;by_cases ac:k<l.length
 ·have af:=Adn ac
  repeat' first|refine Z1 ?_|refine Z8 fun ya J=>?_|refine Z4 ?_;clear J ya|refine Z2 ?_ ?_<;>intro h aa<;>try exact Xp|refine Z3 ?_|exact Zt|apply J.out;clear J ya
  ·exact⟨_,rfl,by rw[sI l c k ac ab (by assumption)]⟩
  ·refine⟨l.length-(k+1),Agm,k+1,rfl,Agm,by simp,fun j hj x hx=>?_⟩;by_cases ae:j=k
   ·subst ae;rw[af]at hx;cases hx;assumption
   ·exact ab j Agm x hx
 ·have ad:k=l.length:=Agm
  repeat' first|refine Z1 ?_|refine Z8 fun ya J=>?_|refine Z4 ?_;clear J ya|refine Z2 ?_ ?_<;>intro h aa<;>try exact Xp|refine Z3 ?_|exact Zt|apply J.out;clear J ya
  exact⟨_,rfl,by rw[U7 l c (by rw[ad]at ab;exact ab)]⟩
def Bw (c:Int):List UInt8->Bool->List UInt8->List (List UInt8)
 |[],_,cur=>if cur=[]then []else [cur]
 |b::r,deep,cur=>
  let d1:=if ((b.toNat:Int)==40)=true then true else deep
  let d2:=if ((b.toNat:Int)==41)=true then false else d1
  if ((b.toNat:Int)==c)=true/\d2=false then cur::Bw c r d2 []else Bw c r d2 (cur++[b])
def Jc (s:List UInt8)(c:Int):List (List UInt8):=Bw c s false []
theorem Jd (c:Int):∀(s:List UInt8) (d:Bool) (cur:List UInt8),(Bw c s d cur).length<=s.length+1
 |[],d,cur=>by unfold Bw;split<;>simp
 |b::r,d,cur=>by
  unfold Bw
  all_goals
   simp only[];generalize (if ((b.toNat:Int)==41)=true then false else _)=d2;split
   ·have:=Jd c r d2 [];simp;omega
   ·have:=Jd c r d2 (cur++[b]);simp;omega
theorem aD {s:List UInt8}{k:Nat}(h:k<s.length):s.drop k=s[k]::s.drop (k+1):=Aeo h
theorem qU {s:List UInt8}{f k:Nat}(hf:f<=k)(h:k<s.length):(s.drop f).take (k+1-f)=(s.drop f).take (k-f)++[s[k]]:=by
 rw[show k+1-f=(k-f)+1 by omega,Ad0,Adl,show f+(k-f)=k by omega,Adn h];rfl
theorem Pu (l:List UInt8)(c:Int)(hb:l.length<=100000)(N:St):ACalls Tryz.prog 95 [str l,sc (.int .u8 c)] N fun x N'=>∃id,x=sl id (Jc l c).length ((Jc l c).map str)/\Keep N N':=by
 refine Z9 52 [.tmp 4] Tryz.func95 ?_
 refine zz ?_
 refine Ad (fun m s N'=>∃(k f id:Nat) (d:Bool) (acc:List (List UInt8)),m=l.length-k/\k<=l.length/\f<=k/\s 0=str l/\s 1=sc (.int .u8 c)/\s 5=sl id acc.length (acc.map str)/\s 6=sc (.bool d)/\s 7=sc (.int .i64 f)/\s 8=sc (.int .i64 k)/\
  Keep N N'/\Own N N' id acc.length/\acc.length<=k/\Agt (Jc l c=acc++Bw c (l.drop k) d ((l.drop f).take (k-f)))) l.length ⟨0,0,1,false,[],Agm,Agm,Agm,rfl,rfl,rfl,rfl,rfl,rfl,Keep.refl _,Own.nil _ _,by simp,rfl⟩ ?_
 rintro m s N' ⟨k,f,id,d,acc,rfl,hk,an,h0,h1,h5,h6,h7,h8,hK,hO,ap,aa⟩;by_cases ad:k<l.length
 ·have ao:=Adn ad
  repeat' first|refine Z1 ?_|refine Z8 fun ya J=>?_|refine Z4 ?_;clear J ya|refine Z2 ?_ ?_<;>intro h ae<;>try exact Xp|refine Z6 ?_;intro idn Nn aj ak ah ac af ab|refine Z3 ?_|exact Zt|apply J.out;clear J ya
  all_goals first
   |(refine⟨l.length-(k+1),Agm,k+1,k+1,idn,_,acc++[(l.drop f).take (k-f)],rfl,Agm,Agm,by simp,rfl,by simp,by simp,by simpa using aj,by simp;omega,?_⟩
     have hc:=aa.out;rw[aD ad]at hc;simp only[Bw, *,↓reduceIte,and_self,Aei]at hc;rw[Agt,hc]
     try first|(simp;done)|(cases d<;>simp at h⊢))
   |(refine⟨l.length-(k+1),Agm,k+1,f,id,_,acc,rfl,Agm,Agm,rfl,rfl,rfl,by simp,hO,Agm,?_⟩
     have hc:=aa.out;rw[aD ad]at hc;simp only[Bw, *,↓reduceIte,and_self,and_false,false_and,reduceCtorEq,Aei]at hc;rw[Agt,hc,qU an ad]
     try first|rfl|(cases d<;>simp at h⊢))
 ·have hc:=aa.out;have am:k=l.length:=Agm;subst am;simp only[Aep,Bw]at hc;have ai:(l.drop f).take (l.length-f)=l.drop f:=Aeq (by simp);rw[ai]at hc;have HC:=(show Agt _ from hc);clear hc aa ai
  repeat' first|refine Z1 ?_|refine Z8 fun ya J=>?_|refine Z4 ?_;clear J ya|refine Z2 ?_ ?_<;>intro h ae<;>try exact Xp|refine Z6 ?_;intro idn Nn aj ak ah ac af ab|refine Z3 ?_|exact Zt|apply J.out;clear J ya
  ·first|refine⟨_,rfl,idn,?_,ak⟩|refine⟨_,rfl,idn,?_⟩
   have hc:=HC.out;rw[if_neg (by intro e;have:=congrArg List.length e;simp at this;omega)]at hc;rw[hc];simp
   try rw[Aeq (by simp)]
  ·first|refine⟨_,rfl,id,?_,hK⟩|refine⟨_,rfl,id,?_⟩
   have hc:=HC.out;rw[if_pos (by apply Ads;simp;omega)]at hc;rw[hc];simp
structure RAtom where
 nt:Bool
 pred:List UInt8
 terms:List (List UInt8)
structure RItem where
 out:Bool
 head:RAtom
 body:List RAtom
def B6 (a:RAtom)(c:List AV):Prop:=∃id,c=[sc (.bool a.nt),str a.pred,sl id a.terms.length (a.terms.map str)]
theorem Bc (a:RAtom)(c:List AV)(h:B6 a c):c.length=3:=by obtain⟨id,rfl⟩:=h;rfl
def EItem (x:RItem)(c:List AV):Prop:=∃h id b,B6 x.head h/\EL B6 x.body b/\c=sc (.bool x.out)::h++[sl id x.body.length b]
theorem Ci (x:RItem)(c:List AV)(h:EItem x c):c.length=5:=by
 obtain⟨h,id,b,⟨i,rfl⟩,-,rfl⟩:=h;rfl
def Nh:List UInt8->Bool
 |[]=>false
 |b::_=>(b.toNat:Int)==33
def H2 (s:List UInt8):List UInt8:=if Nh s then (s.drop 1).take (s.length-1)else s
def Ni (nt:Bool)(s:List UInt8):RAtom:=
 {nt:=nt,pred:=(s.drop 0).take (Bp s 40-0),terms:=if Bp s 40+1<s.length then Jc ((s.drop (Bp s 40+1)).take (s.length-1-(Bp s 40+1))) 44 else []}
def Dj (s:List UInt8):RAtom:=Ni (Nh s) (H2 s)
theorem Qr (l:List UInt8)(hb:l.length<=10000)(N:St):ACalls Tryz.prog 138 [str l] N fun x N'=>∃c,x=ag c/\B6 (Dj l) c/\Keep N N':=by
 refine Z9 36 [.cell 2 143] Tryz.func138 ?_;have ac:∀(m:List UInt8),((Bp m 40:Nat):Int)<=(m.length:Int):=fun m=>by have:=Pk m 40;omega
 cases l with
 |nil=>
  have ae:(([]:List UInt8)==[])=true:=rfl;have hf:=ac [];simp only[Ael]at hf ac
  repeat' first|refine Z1 ?_|refine Z8 fun ya J=>?_|refine Z4 ?_;clear J ya|refine Z2 ?_ ?_<;>intro h aa<;>try exact Xp|(refine Z5 ?_;first|(refine Xi (Jy _ _ (by simp) _) ?_;rintro _ _ ⟨rfl,rfl⟩)|(refine Xi (Pu _ _ (by simp) _) ?_;rintro _ _ ⟨idc,rfl,ab⟩;(have ko:=ab.obj;simp only[Aa,Ac]at ko)))|refine Z3 ?_|exact Zt|apply J.out;clear J ya
  exact⟨_,rfl,_,rfl,⟨1,by simp[Dj,Ni,Nh,H2]⟩,Xs⟩
 |cons b r=>
  have ae:(b::r==([]:List UInt8))=false:=rfl;simp only[Aem]at hb;have ad:(b::r)[0]?=some b:=rfl;have hf:=Pk r 40;have af:=Pk (b::r) 40;simp only[Aem]at af
  repeat' first|refine Z1 ?_|refine Z8 fun ya J=>?_|refine Z4 ?_;clear J ya|refine Z2 ?_ ?_<;>intro h aa<;>try exact Xp|(refine Z5 ?_;first|(refine Xi (Jy _ _ (by first|omega|(simp;omega)) _) ?_;rintro _ _ ⟨rfl,rfl⟩)|(refine Xi (Pu _ _ (by first|omega|(simp;omega)) _) ?_;rintro _ _ ⟨idc,rfl,ab⟩;(have ko:=ab.obj;simp only[Aa,Ac]at ko)))|refine Z3 ?_|exact Zt|apply J.out;clear J ya
  ·have hq:Bp r 40+1<r.length:=Agm;exact⟨_,rfl,_,rfl,⟨idc,by simp[Dj,Ni,Nh,H2, *]⟩,Xs⟩
  ·have hq:¬Bp r 40+1<r.length:=Agm;exact⟨_,rfl,_,rfl,⟨1,by simp[Dj,Ni,Nh,H2, *]⟩,Xs⟩
  ·have hq:Bp (b::r) 40<r.length:=Agm;exact⟨_,rfl,_,rfl,⟨idc,by simp[Dj,Ni,Nh,H2, *]⟩,Xs⟩
  ·have hq:¬Bp (b::r) 40<r.length:=Agm;exact⟨_,rfl,_,rfl,⟨1,by simp[Dj,Ni,Nh,H2, *]⟩,Xs⟩
theorem any_take_succ {α:Type}{l:List α}{k:Nat}{a:α}(p:α->Bool)(h:l[k]?=some a):(l.take (k+1)).any p=((l.take k).any p||p a):=by
 rw[Ad0,h];simp
theorem Dk {α:Type}{l:List α}{k:Nat}{a:α}(p:α->Bool)(h:l[k]?=some a)(hp:p a=true):l.any p=true:=
 Aer.2 ⟨a,Adp h,hp⟩
def Ab:List UInt8->Bool
 |[]=>false
 |b::_=>Bo b.toNat
theorem Co (l:List UInt8)(N:St):ACalls Tryz.prog 145 [str l] N fun x N'=>x=sc (.bool (Ab l))/\N'=N:=by
 refine Z9 10 [.tmp 2] Tryz.func145 ?_;cases l with
 |nil=>
  have ab:(([]:List UInt8)==[])=true:=rfl
  repeat' first|refine Z1 ?_|refine Z8 fun ya J=>?_|refine Z4 ?_;clear J ya|refine Z5 ?_;refine Xi (N6 _ _) ?_;rintro _ _ ⟨rfl,rfl⟩|refine Z3 ?_|exact Zt|apply J.out;clear J ya
  all_goals exact⟨_,rfl,by simp[Ab]⟩
 |cons b r=>
  have ab:(b::r==([]:List UInt8))=false:=rfl;have aa:(b::r)[0]?=some b:=rfl
  repeat' first|refine Z1 ?_|refine Z8 fun ya J=>?_|refine Z4 ?_;clear J ya|refine Z5 ?_;refine Xi (N6 _ _) ?_;rintro _ _ ⟨rfl,rfl⟩|refine Z3 ?_|exact Zt|apply J.out;clear J ya
  all_goals exact⟨_,rfl,by simp[Ab]⟩
def Ae (x:RItem):List RAtom:=(if x.out=true then []else [x.head])++x.body
abbrev A5 (x:RItem)(ih id:Nat)(b:List AV):List AV:=[sc (.bool x.out),sc (.bool x.head.nt),str x.head.pred,sl ih x.head.terms.length (x.head.terms.map str),sl id x.body.length b]
theorem EItem.cells {x:RItem}{c:List AV}(h:EItem x c):∃ih id b,EL B6 x.body b/\c=A5 x ih id b:=by
 obtain⟨h,id,b,⟨i,rfl⟩,hb,rfl⟩:=h;exact⟨i,id,b,hb,rfl⟩
theorem EItem.of {x:RItem}{ih id:Nat}{b:List AV}(h:EL B6 x.body b):EItem x (A5 x ih id b):=⟨_,id,b,⟨ih,rfl⟩,h,rfl⟩
theorem Cm {l:List RAtom}{cs:List AV}{i:Nat}{a:RAtom}(h:EL B6 l cs)(hi:l[i]?=some a):∃ia r,cs.drop (i*3)=sc (.bool a.nt)::str a.pred::sl ia a.terms.length (a.terms.map str)::r:=by
 obtain⟨c,r,⟨ia,rfl⟩,e⟩:=EL.get Bc h hi;exact⟨ia,r,e⟩
theorem Uy (x:RItem)(p:List UInt8)(c:List AV)(hc:EItem x c)(hn:x.body.length<=100000)(N:St):ACalls Tryz.prog 224 [ag c,str p] N fun r N'=>r=sc (.bool (x.body.any fun a=>a.pred==p))/\Keep N N':=by
 obtain⟨ih,id,b,hb,rfl⟩:=hc.cells;have ae:=EL.length Bc hb;refine Z9 21 [.tmp 4] Tryz.func224 ?_
 refine zz ?_
 refine Ad (fun m s N'=>∃k:Nat,m=x.body.length-k/\k<=x.body.length/\s 2=ptr N.nobj 0/\s 1=str p/\s 5=sc (.int .i64 k)/\N'=N.new (A5 x ih id b)/\Agt ((x.body.take k).any (fun a=>a.pred==p)=false)) x.body.length
  ⟨0,Agm,Agm,rfl,rfl,rfl,rfl,by simp[Agt]⟩ ?_
 rintro m s N' ⟨k,rfl,hk,h2,h1,h5,rfl,aa⟩;by_cases ab:k<x.body.length
 ·obtain⟨ia,r,hd⟩:=Cm hb (Adn ab)
  repeat' first|refine Z1 ?_|refine Z8 fun ya J=>?_|refine Z4 ?_;clear J ya|refine Z2 ?_ ?_<;>intro h ac<;>try exact Xp|refine Z3 ?_|exact Zt|apply J.out;clear J ya
  ·exact⟨_,rfl,by rw[Dk _ (Adn ab) (by assumption)],Xs⟩
  ·exact⟨x.body.length-(k+1),Agm,k+1,rfl,Agm,by simp,by rw[Agt,any_take_succ _ (Adn ab),aa.out];simpa using h⟩
 ·have ad:k=x.body.length:=Agm;subst ad;rw[Adu]at aa
  repeat' first|refine Z1 ?_|refine Z8 fun ya J=>?_|refine Z4 ?_;clear J ya|refine Z2 ?_ ?_<;>intro h ac<;>try exact Xp|refine Z3 ?_|exact Zt|apply J.out;clear J ya
  exact⟨_,rfl,by rw[aa.out],Xs⟩
def Nv (x:RItem):List RAtom:=if x.out=true then []else [x.head]
def jL (x:RItem)(ih id:Nat)(b:List AV)(N:St)(m:Nat)(s:Sl)(N':St):Prop:=
 ∃(k id3:Nat) (xs:List AV),m=x.body.length-k/\k<=x.body.length/\s 1=ptr N.nobj 0/\s 3=sl id3 ((Nv x).length+k) xs/\s 4=sc (.int .i64 k)/\Keep N N'/\Own N N' id3 ((Nv x).length+k)/\
  N'.obj N.nobj=A5 x ih id b/\N.nobj<N'.nobj/\Agt (EL B6 (Nv x++x.body.take k) xs)
theorem Oi (x:RItem)(c:List AV)(hc:EItem x c)(hn:x.body.length<=100000)(N:St):ACalls Tryz.prog 139 [ag c] N fun r N'=>∃id cs,r=sl id (Ae x).length cs/\EL B6 (Ae x) cs/\Keep N N':=by
 obtain⟨ih,id,b,hb,rfl⟩:=hc.cells;have an:=EL.length Bc hb;have hpl:(Nv x).length<=1:=by unfold Nv;split<;>simp
 refine Z9 29 [.tmp 2] Tryz.func139 ?_
 repeat' first|refine Z1 ?_|refine Z8 fun ya J=>?_|refine Z4 ?_;clear J ya|refine Z2 ?_ ?_<;>intro h aa<;>try exact Xp|refine Z3 ?_|exact Zt|apply J.out;clear J ya
 ·refine Ad (jL x ih id b N) x.body.length ⟨0,_,_,Agm,Agm,rfl,by unfold Nv;rw[if_neg (by simpa using h)];rfl,rfl,Xs,?_,by simp[St.new,St.lay],by simp[St.new,St.lay],?_⟩ ?_
  ·unfold Nv;rw[if_neg (by simpa using h)];exact Own.made (Xs) (by decide)
  ·unfold Nv;rw[if_neg (by simpa using h)];exact EL.single ⟨_,rfl⟩
  rintro m s N' ⟨k,id3,xs,rfl,hk,h1,h3,h4,hK,hO,ho,am,hE⟩;have af:=EL.length Bc hE.out;simp only[Aeb,Aec,Aeh hk]at af;by_cases ac:k<x.body.length
  ·obtain⟨ia,r,hd⟩:=Cm hb (Adn ac)
   repeat' first|refine Z1 ?_|refine Z8 fun ya J=>?_|refine Z4 ?_;clear J ya|refine Z2 ?_ ?_<;>intro h aa<;>try exact Xp|refine Z6 ?_;intro idn Nn ai aj ab ae ak ad|refine Z3 ?_|exact Zt|apply J.out;clear J ya
   refine⟨x.body.length-(k+1),Agm,k+1,idn,_,rfl,Agm,by simp[upd,h1],rfl,Ago,aj,by simpa[Adw]using ai,by rw[ab];exact ho,Agm,?_⟩;rw[Agt,Ad0,Adn ac,<-Aed];exact hE.out.append (EL.single ⟨_,rfl⟩)
  ·have ah:k=x.body.length:=Agm;subst ah;rw[Adu]at hE
   repeat' first|refine Z1 ?_|refine Z8 fun ya J=>?_|refine Z4 ?_;clear J ya|refine Z2 ?_ ?_<;>intro h aa<;>try exact Xp|refine Z3 ?_|exact Zt|apply J.out;clear J ya
   first|exact⟨_,rfl,id3,xs,by simp[Ae,Nv],hE.out,hK⟩|exact⟨_,rfl,id3,xs,by simp[Ae,Nv],hE.out⟩
 ·refine Ad (jL x ih id b N) x.body.length ⟨0,_,_,Agm,Agm,rfl,by unfold Nv;rw[if_pos (by simpa using h)];rfl,rfl,Xs,?_,by simp[St.new,St.lay],by simp[St.new,St.lay],?_⟩ ?_
  ·unfold Nv;rw[if_pos (by simpa using h)];exact Own.nil _ _
  ·unfold Nv;rw[if_pos (by simpa using h)];rfl
  rintro m s N' ⟨k,id3,xs,rfl,hk,h1,h3,h4,hK,hO,ho,am,hE⟩;have af:=EL.length Bc hE.out;simp only[Aeb,Aec,Aeh hk]at af;by_cases ac:k<x.body.length
  ·obtain⟨ia,r,hd⟩:=Cm hb (Adn ac)
   repeat' first|refine Z1 ?_|refine Z8 fun ya J=>?_|refine Z4 ?_;clear J ya|refine Z2 ?_ ?_<;>intro h aa<;>try exact Xp|refine Z6 ?_;intro idn Nn ai aj ab ae ak ad|refine Z3 ?_|exact Zt|apply J.out;clear J ya
   refine⟨x.body.length-(k+1),Agm,k+1,idn,_,rfl,Agm,by simp[upd,h1],rfl,Ago,aj,by simpa[Adw]using ai,by rw[ab];exact ho,Agm,?_⟩;rw[Agt,Ad0,Adn ac,<-Aed];exact hE.out.append (EL.single ⟨_,rfl⟩)
  ·have ah:k=x.body.length:=Agm;subst ah;rw[Adu]at hE
   repeat' first|refine Z1 ?_|refine Z8 fun ya J=>?_|refine Z4 ?_;clear J ya|refine Z2 ?_ ?_<;>intro h aa<;>try exact Xp|refine Z3 ?_|exact Zt|apply J.out;clear J ya
   first|exact⟨_,rfl,id3,xs,by simp[Ae,Nv],hE.out,hK⟩|exact⟨_,rfl,id3,xs,by simp[Ae,Nv],hE.out⟩
def nob (a:RAtom)(t:List UInt8)(k:Nat):Prop:=(a.terms.take k).any (fun u=>!a.nt&&u==t)=false
def zQ (x:RItem)(t:List UInt8)(j:Nat):Prop:=(x.body.take j).any (fun a=>a.terms.any fun u=>!a.nt&&u==t)=false
def Kq (x:RItem)(t:List UInt8):Bool:=x.body.any fun a=>a.terms.any fun u=>!a.nt&&u==t
theorem A2 {l:List (List UInt8)}{k:Nat}(h:k<l.length):(l.map str).drop k=str l[k]::(l.map str).drop (k+1):=by
 rw[Aeo (by simpa using h)];simp
theorem mR (x:RItem)(t:List UInt8)(c:List AV)(hc:EItem x c)(hn:x.body.length<=100000)(ht:∀a∈x.body,a.terms.length<=100000)(N:St):ACalls Tryz.prog 181 [ag c,str t] N fun r N'=>r=sc (.bool (Kq x t))/\Keep N N':=by
 obtain⟨ih,id,b,hb,rfl⟩:=hc.cells;have ak:=EL.length Bc hb;refine Z9 45 [.tmp 4] Tryz.func181 ?_
 refine zz ?_
 refine Ad (fun m s N'=>∃j:Nat,m=x.body.length-j/\j<=x.body.length/\s 2=ptr N.nobj 0/\s 1=str t/\s 5=sc (.int .i64 j)/\N'=N.new (A5 x ih id b)/\zQ x t j) x.body.length
  ⟨0,Agm,Agm,rfl,rfl,rfl,rfl,by simp[zQ]⟩ ?_
 rintro m s N' ⟨j,rfl,hj,h2,h1,h5,rfl,ae⟩;by_cases af:j<x.body.length
 ·obtain⟨ia,r,hd⟩:=Cm hb (Adn af);have ac:=Adn af;have ai:=ht x.body[j] (Aes af);generalize x.body[j]=a at hd ac ai;have HG:Agt (x.body[j]?=some a):=ac;clear ac
  repeat' first|refine Z1 ?_|refine Z8 fun ya J=>?_|refine Z4 ?_;clear J ya|refine Z2 ?_ ?_<;>intro h ad<;>try exact Xp|refine Z3 ?_|exact Zt|apply J.out;clear J ya
  refine Ad (fun m2 s N'=>∃k:Nat,m2=a.terms.length-k/\k<=a.terms.length/\s 2=ptr N.nobj 0/\s 1=str t/\s 5=sc (.int .i64 j)/\s 6=sc (.int .i64 k)/\N'=N.new (A5 x ih id b)/\nob a t k) a.terms.length
   ⟨0,Agm,Agm,by simp[upd,h2],by simp[upd,h1],by simp[upd,h5],rfl,rfl,by simp[nob]⟩ ?_
  rintro m2 s2 N2 ⟨k,rfl,hk,g2,g1,g5,g6,rfl,aa⟩;by_cases ab:k<a.terms.length
  ·have aj:=A2 ab
   repeat' first|refine Z1 ?_|refine Z8 fun ya J=>?_|refine Z4 ?_;clear J ya|refine Z2 ?_ ?_<;>intro h ad<;>try exact Xp|refine Z3 ?_|exact Zt|apply J.out;clear J ya
   ·exact⟨_,rfl,by rw[Kq,Dk _ HG.out (Dk _ (Adn ab) (by simp[*]))],Xs⟩
   all_goals exact⟨a.terms.length-(k+1),Agm,k+1,rfl,Agm,by simp,by unfold nob at*;rw[any_take_succ _ (Adn ab),aa];simp[*]⟩
  ·have ah:k=a.terms.length:=Agm;subst ah
   repeat' first|refine Z1 ?_|refine Z8 fun ya J=>?_|refine Z4 ?_;clear J ya|refine Z2 ?_ ?_<;>intro h ad<;>try exact Xp|refine Z3 ?_|exact Zt|apply J.out;clear J ya
   refine⟨x.body.length-(j+1),Agm,j+1,rfl,Agm,by simp,?_⟩;unfold zQ nob at*
   rw[Adu]at aa;rw[any_take_succ _ HG.out,ae,aa];rfl
 ·have ah:j=x.body.length:=Agm;subst ah
  repeat' first|refine Z1 ?_|refine Z8 fun ya J=>?_|refine Z4 ?_;clear J ya|refine Z2 ?_ ?_<;>intro h ad<;>try exact Xp|refine Z3 ?_|exact Zt|apply J.out;clear J ya
  unfold zQ at ae;rw[Adu]at ae;exact⟨_,rfl,by rw[Kq,ae],Xs⟩
def Wv (x:RItem)(t:List UInt8):Bool:=Ab t&&!Kq x t
def sX (x:RItem)(a:RAtom):Bool:=a.terms.any (Wv x)
def Cz (x:RItem):Bool:=!(Ae x).any (sX x)
def noT (x:RItem)(a:RAtom)(k:Nat):Prop:=(a.terms.take k).any (Wv x)=false
def noA (x:RItem)(j:Nat):Prop:=((Ae x).take j).any (sX x)=false
def RItem.fits (x:RItem):Prop:=x.body.length<=1000/\x.head.terms.length<=1000/\∀a∈x.body,a.terms.length<=1000
theorem Y1 (x:RItem)(c:List AV)(hc:EItem x c)(hx:x.fits)(N:St):ACalls Tryz.prog 137 [ag c] N fun r N'=>r=sc (.bool (Cz x))/\Keep N N':=by
 have an:=hc;obtain⟨ih,id,b,hb,rfl⟩:=hc.cells;obtain⟨f1,f2,f3⟩:=hx;have f4:∀a∈x.body,a.terms.length<=100000:=fun a ha=>by have:=f3 a ha;omega
 have a0:(Ae x).length<=1001:=by unfold Ae;split<;>simp<;>omega
 have av:∀a∈Ae x,a.terms.length<=1000:=by
  intro a ha;unfold Ae at ha;rw[Aet]at ha;rcases ha with ha|ha
  ·split at ha
   ·cases ha
   ·simp at ha;subst ha;exact f2
  ·exact f3 a ha
 refine Z9 41 [.tmp 2] Tryz.func137 ?_
 repeat' first|refine Z1 ?_|refine Z8 fun ya J=>?_|refine Z4 ?_;clear J ya|refine Z5 ?_;refine Xi (Oi _ _ an Agm _) ?_;rintro _ _ ⟨ida,cs,rfl,hE,hK⟩;(have ko:=hK.obj _ (by rw[Aa];exact Nat.lt_succ_self _);rw[Al]at ko;have kn:=hK.nobj;rw[Aa]at kn)|refine Z3 ?_|exact Zt|apply J.out;clear J ya
 have az:=EL.length Bc hE;rename_i N1;have ap:Keep N N1:=((Keep.refl N).new _).trans hK
 refine Ad (fun m s N'=>∃j:Nat,m=(Ae x).length-j/\j<=(Ae x).length/\s 1=ptr N.nobj 0/\s 3=sl ida (Ae x).length cs/\s 4=sc (.int .i64 j)/\Keep N N'/\N'.obj N.nobj=A5 x ih id b/\N.nobj<N'.nobj/\noA x j) (Ae x).length
  ⟨0,Agm,Agm,rfl,rfl,rfl,ap,ko,Agm,by simp[noA]⟩ ?_
 rintro m s N' ⟨j,rfl,hj,h1,h3,h4,ao,ak,am,ad⟩;clear hK ap ko kn;by_cases af:j<(Ae x).length
 ·obtain⟨ia,r,hd⟩:=Cm hE (Adn af);have ab:=Adn af;have au:=av (Ae x)[j] (Aes af);generalize (Ae x)[j]=a at hd ab au;have HG:Agt ((Ae x)[j]?=some a):=ab;clear ab
  repeat' first|refine Z1 ?_|refine Z8 fun ya J=>?_|refine Z4 ?_;clear J ya|refine Z2 ?_ ?_<;>intro h ac<;>try exact Xp|refine Z3 ?_|exact Zt|apply J.out;clear J ya
  refine Ad (fun m2 s N'=>∃k:Nat,m2=a.terms.length-k/\k<=a.terms.length/\s 1=ptr N.nobj 0/\s 3=sl ida (Ae x).length cs/\s 4=sc (.int .i64 j)/\s 5=sc (.int .i64 k)/\Keep N N'/\N'.obj N.nobj=A5 x ih id b/\N.nobj<N'.nobj/\noT x a k) a.terms.length
   ⟨0,Agm,Agm,by simp[upd,h1],by simp[upd,h3],by simp[upd,h4],rfl,ao,ak,am,by simp[noT]⟩ ?_
  rintro m2 s2 N2 ⟨k,rfl,hk,g1,g3,g4,g5,aw,ay,hnt,aa⟩;clear ao ak am;by_cases ae:k<a.terms.length
  ·have ax:=A2 ae
   repeat' first|refine Z1 ?_|refine Z8 fun ya J=>?_|refine Z4 ?_;clear J ya|refine Z2 ?_ ?_<;>intro h ac<;>try exact Xp|(refine Z5 ?_;first|(refine Xi (Co _ _) ?_;rintro _ _ ⟨rfl,rfl⟩)|(refine Xi (mR _ _ _ an Agm f4 _) ?_;rintro _ _ ⟨rfl,aj⟩;(have kb:=aj.obj _ hnt;have knb:=aj.nobj)))|refine Z3 ?_|exact Zt|apply J.out;clear J ya
   all_goals
    have ai:=Adn ae
    first
    |exact⟨_,rfl,by rw[Cz,Dk _ HG.out (Dk (Wv x) ai (by simp[Wv, *]))];rfl,Xs⟩
    |exact⟨a.terms.length-(k+1),Agm,k+1,rfl,Agm,by simp,aw.trans aj,Agm,by unfold noT at*;rw[any_take_succ _ ai,aa];simp[Wv, *]⟩
    |exact⟨a.terms.length-(k+1),Agm,k+1,rfl,Agm,by simp,by unfold noT at*;rw[any_take_succ _ ai,aa];simp[Wv, *]⟩
  ·have ah:k=a.terms.length:=Agm;subst ah
   repeat' first|refine Z1 ?_|refine Z8 fun ya J=>?_|refine Z4 ?_;clear J ya|refine Z2 ?_ ?_<;>intro h ac<;>try exact Xp|refine Z3 ?_|exact Zt|apply J.out;clear J ya
   refine⟨(Ae x).length-(j+1),Agm,j+1,rfl,Agm,by simp,?_⟩;unfold noA noT at*
   rw[Adu]at aa;rw[any_take_succ _ HG.out,ad,sX,aa];rfl
 ·have ah:j=(Ae x).length:=Agm;subst ah
  repeat' first|refine Z1 ?_|refine Z8 fun ya J=>?_|refine Z4 ?_;clear J ya|refine Z2 ?_ ?_<;>intro h ac<;>try exact Xp|refine Z3 ?_|exact Zt|apply J.out;clear J ya
  unfold noA at ad;rw[Adu]at ad
  first
  |exact⟨_,rfl,by rw[Cz,ad];rfl,Xs⟩
  |exact⟨_,rfl,by rw[Cz,ad];rfl⟩
def It:Scan:=⟨0,0,0,0,0,0,false⟩
def A4 (X:Scan)(c:UInt8):Scan×Bool:=
 if decide (5<=X.st)=true/\decide (X.st<=8)=true then Dn X c.toNat else Cs X c.toNat
def Lg:Scan->List UInt8->Nat->Scan×Option Nat
 |X,[],_=>(X,none)
 |X,c::r,i=>if (A4 X c).2=true then Lg (A4 X c).1 r (i+1)else ((A4 X c).1,some i)
def Eh (s:List UInt8):Int:=
 match (Lg It s 0).2 with
 |some i=>i
 |none=>if (Lg It s 0).1.st !=0 then s.length else -1
def Scan.upto (X:Scan)(k:Nat):Prop:=X.items<=k/\X.letters<=k+1/\X.digits<=k+1/\X.terms<=k+1/\X.lits<=k+1/\0<=X.items/\0<=X.letters/\0<=X.digits/\0<=X.terms/\0<=X.lits
theorem W2 {X:Scan}{k:Nat}(h:X.upto k)(c:UInt8):(A4 X c).1.upto (k+1):=by
 obtain⟨h1,h2,h3,h4,h5,h6,h7,h8,h9,aa⟩:=h;unfold A4 Dn Cs Scan.upto
 repeat' split
 all_goals (simp only[];((repeat' first|constructor|split<;>omega|omega)))
theorem kJ {X:Scan}{k:Nat}(h:X.upto k)(hk:k<=10000):X.small:=by
 obtain⟨h1,h2,h3,h4,h5,h6,h7,h8,h9,aa⟩:=h;exact⟨Agm,Agm,Agm,Agm,Agm,h6,h7,h8,h9,aa⟩
def cO (l:List UInt8)(k:Nat)(X:Scan):Prop:=Lg It l 0=Lg X (l.drop k) k
theorem L8 {l:List UInt8}{k:Nat}{X:Scan}(h:k<l.length):Lg X (l.drop k) k=if (A4 X l[k]).2=true then Lg (A4 X l[k]).1 (l.drop (k+1)) (k+1)else ((A4 X l[k]).1,some k):=by
 rw[Aeo h];rfl
theorem Ue (l:List UInt8)(hb:l.length<=1000)(N:St):ACalls Tryz.prog 134 [str l] N fun x N'=>x=sc (.int .i64 (Eh l))/\Keep N N':=by
 refine Z9 46 [.tmp 2] Tryz.func134 ?_
 refine zz ?_
 refine Ad (fun m s N'=>∃(k:Nat) (X:Scan),m=l.length-k/\k<=l.length/\s 0=str l/\s 3=ptr N.nobj 0/\s 4=sc (.int .i64 k)/\Keep N N'/\N'.obj N.nobj=Iy X/\N.nobj<N'.nobj/\X.upto k/\cO l k X) l.length
  ⟨0,It,Agm,Agm,rfl,rfl,rfl,Xs,by simp[St.new];rfl,by simp[St.new],by simp[Scan.upto,It],rfl⟩ ?_
 rintro m s N' ⟨k,X,rfl,hk,h0,h3,h4,hK,ho,hn,hu,hp⟩;have ad:=kJ hu Agm;have ae:=ho;unfold Iy at ho;by_cases ab:k<l.length
 ·have ai:=Adn ab
  repeat' first|refine Z1 ?_|refine Z8 fun ya J=>?_|refine Z4 ?_;clear J ya|refine Z2 ?_ ?_<;>intro h ac<;>try exact Xp|(refine Z5 ?_;first|(refine Xi (mC _ X ad _ _ ae) ?_;rintro _ _ ⟨rfl,af,aa⟩;(have kin:=aa.nobj))|(refine Xi (lQ _ X ad _ _ ae) ?_;rintro _ _ ⟨rfl,af,aa⟩;(have kin:=aa.nobj)))|refine Z3 ?_|exact Zt|apply J.out;clear J ya
  all_goals
   first
   |(have hs:A4 X l[k]=Dn X l[k].toNat:=by simp[A4, *]
     first
     |exact⟨_,rfl,by rw[Eh,show Lg It l 0=_ from hp,L8 ab,hs,h];rfl,KeepX.keep hK aa (Adc _)⟩
     |exact⟨l.length-(k+1),Agm,k+1,_,rfl,Agm,by simp,KeepX.keep hK aa (Adc _),rfl,Agm,by rw[<-hs];exact W2 hu _,by rw[cO,show Lg It l 0=_ from hp,L8 ab,hs,h];rfl⟩)
   |(have hs:A4 X l[k]=Cs X l[k].toNat:=by simp only[A4, *,Aei,false_and,and_false,↓reduceIte]
     first
     |exact⟨_,rfl,by rw[Eh,show Lg It l 0=_ from hp,L8 ab,hs,h];rfl,KeepX.keep hK aa (Adc _)⟩
     |exact⟨l.length-(k+1),Agm,k+1,_,rfl,Agm,by simp,KeepX.keep hK aa (Adc _),rfl,Agm,by rw[<-hs];exact W2 hu _,by rw[cO,show Lg It l 0=_ from hp,L8 ab,hs,h];rfl⟩)
 ·have ah:k=l.length:=Agm;subst ah;have hr:Lg It l 0=(X,none):=by rw[show Lg It l 0=_ from hp,Aep];rfl
  have HR:Agt _:=hr;clear hr
  repeat' first|refine Z1 ?_|refine Z8 fun ya J=>?_|refine Z4 ?_;clear J ya|refine Z2 ?_ ?_<;>intro h ac<;>try exact Xp|refine Z3 ?_|exact Zt|apply J.out;clear J ya
  all_goals
   have hr:=HR.out
   first
   |exact⟨_,rfl,by simp[Eh,hr, *],hK⟩
   |exact⟨_,rfl,by simp[Eh,hr, *]⟩
   |exact⟨_,rfl,by simp[Eh,hr];simpa using h⟩
def Fu (M:Nat->Nat->Bool):List AV:=(List.range 256).map fun n=>sc (.bool (M (n / 16) (n % 16)))
def set2 (M:Nat->Nat->Bool)(i k:Nat)(v:Bool):Nat->Nat->Bool:=fun a b=>if a=i/\b=k then v else M a b
theorem G6 (M:Nat->Nat->Bool):(Fu M).length=256:=by simp[Fu]
theorem Pn (M:Nat->Nat->Bool){i k:Nat}(hi:i<16)(hk:k<16):(Fu M)[i*16+k]?=some (sc (.bool (M i k))):=by
 have h1:i*16+k<256:=Agm;have h2:(i*16+k) / 16=i:=Agm;have h3:(i*16+k) % 16=k:=Agm;simp[Fu,h1,h2,h3]
theorem Vd (M:Nat->Nat->Bool){i k:Nat}(hi:i<16)(hk:k<16)(v:Bool):(Fu M).set (i*16+k) (sc (.bool v))=Fu (set2 M i k v):=by
 apply Ad5;intro n;rw[Adv];by_cases hn:n<256
 ·by_cases he:i*16+k=n
  ·subst he;have h2:(i*16+k) / 16=i:=Agm;have h3:(i*16+k) % 16=k:=Agm;simp[Fu,hn,h2,h3,set2]
  ·have:¬(n / 16=i/\n % 16=k):=Agm;simp[Fu,hn,he,set2,this]
 ·have:i*16+k≠n:=Agm;simp[Fu,hn,this]
theorem aA:My 256 (.bool false)=Fu fun _ _=>false:=by
 apply Ad5;intro n;by_cases hn:n<256
 ·simp only[Fu,My,cst1,List.getElem?_replicate,Adx,List.getElem?_range hn,Aeu,hn,if_true]
 ·simp only[My,List.getElem?_replicate,if_neg hn];rw[Ady (by rw[G6];omega)]
theorem C4 {l:List RItem}{cs:List AV}{i:Nat}{x:RItem}(h:EL EItem l cs)(hi:l[i]?=some x):∃ih id b r,EL B6 x.body b/\cs.drop (i*5)=sc (.bool x.out)::sc (.bool x.head.nt)::str x.head.pred::sl ih x.head.terms.length (x.head.terms.map str)::sl id x.body.length b::r:=by
 obtain⟨c,r,hc,e⟩:=EL.get Ci h hi;obtain⟨ih,id,b,hb,rfl⟩:=hc.cells;exact⟨ih,id,b,r,hb,e⟩
def Lu (l:List RItem)(i k:Nat):Bool:=
 match l[i]?,l[k]? with
 |some x,some y=>!y.out&&x.body.any fun a=>a.pred==y.head.pred
 |_,_=>false
def Q7 (l:List RItem)(i k:Nat)(M:Nat->Nat->Bool):Prop:=∀a b,M a b=if (a<i/\b<l.length)\/(a=i/\b<k)then Lu l a b else false
theorem Hu {l xs:List AV}(h:xs.length=l.length):lsp l 0 xs=xs:=by
 rw[H8 _ _ _ Agm,Aea,h,Aep];simp
def fw (M:Nat->Nat->Bool)(m:Nat):Nat->Nat->Bool:=fun i k=>M i k||(M i m&&M m k)
def fwN (n:Nat)(M:Nat->Nat->Bool)(m:Nat):Nat->Nat->Bool:=fun i k=>if i<n/\k<n then fw M m i k else M i k
def Hv (n:Nat)(M:Nat->Nat->Bool):Nat->Nat->Nat->Bool
 |0=>M
 |m+1=>fwN n (Hv n M m) m
def part (n:Nat)(M:Nat->Nat->Bool)(m i k:Nat)(W:Nat->Nat->Bool):Prop:=∀a b,W a b=if (a<i/\b<n)\/(a=i/\b<k)then fw M m a b else M a b
def Wh (l:List RItem):Nat->Nat->Bool:=Hv l.length (fun a b=>if a<l.length/\b<l.length then Lu l a b else false) l.length
theorem Uh {n:Nat}{M W:Nat->Nat->Bool}{m i k:Nat}(h:part n M m i k W)(hk:k<n)(hm:m<n):W i k=M i k/\W i m=M i m/\W m k=M m k:=by
 refine⟨?_,?_,?_⟩
 ·rw[h,if_neg Agm]
 ·rw[h];split
  ·unfold fw;cases M i m<;>simp
  ·rfl
 ·rw[h];split
  ·unfold fw;cases M m k<;>simp
  ·rfl
theorem gJ {n:Nat}{M W:Nat->Nat->Bool}{m i k:Nat}(h:part n M m i k W){v:Bool}(hv:v=fw M m i k):part n M m i (k+1) (set2 W i k v):=by
 intro a b;unfold set2;by_cases aa:a=i/\b=k
 ·obtain⟨rfl,rfl⟩:=aa;rw[if_pos ⟨rfl,rfl⟩,if_pos Agm];exact hv
 ·rw[if_neg aa,h];by_cases hc:(a<i/\b<n)\/(a=i/\b<k)
  ·rw[if_pos hc,if_pos Agm]
  ·rw[if_neg hc,if_neg Agm]
theorem gK {n:Nat}{M W:Nat->Nat->Bool}{m i:Nat}(h:part n M m i n W):part n M m (i+1) 0 W:=by
 intro a b;rw[h];by_cases hc:(a<i/\b<n)\/(a=i/\b<n)
 ·rw[if_pos hc,if_pos Agm]
 ·rw[if_neg hc,if_neg Agm]
theorem Y9 {n:Nat}{M:Nat->Nat->Bool}{m:Nat}:part n M m 0 0 M:=by intro a b;rw[if_neg Agm]
theorem gL {n:Nat}{M W:Nat->Nat->Bool}{m:Nat}(h:part n M m n 0 W):W=fwN n M m:=by
 funext a b;rw[h];unfold fwN;by_cases hc:a<n/\b<n
 ·rw[if_pos Agm,if_pos hc]
 ·rw[if_neg Agm,if_neg hc]
theorem iN {l:List RItem}{M:Nat->Nat->Bool}{i k:Nat}(h:Q7 l i k M)(v:Bool)(hv:v=Lu l i k):Q7 l i (k+1) (set2 M i k v):=by
 intro a b;unfold set2;by_cases aa:a=i/\b=k
 ·obtain⟨rfl,rfl⟩:=aa;rw[if_pos ⟨rfl,rfl⟩,if_pos Agm];exact hv
 ·rw[if_neg aa,h];by_cases hc:(a<i/\b<l.length)\/(a=i/\b<k)
  ·rw[if_pos hc,if_pos Agm]
  ·rw[if_neg hc,if_neg Agm]
theorem wG {l:List RItem}{M:Nat->Nat->Bool}{i:Nat}(h:Q7 l i l.length M):Q7 l (i+1) 0 M:=by
 intro a b;rw[h];by_cases hc:(a<i/\b<l.length)\/(a=i/\b<l.length)
 ·rw[if_pos hc,if_pos Agm]
 ·rw[if_neg hc,if_neg Agm]
theorem wH {l:List RItem}{M:Nat->Nat->Bool}(h:Q7 l l.length 0 M):M=fun a b=>if a<l.length/\b<l.length then Lu l a b else false:=by
 funext a b;rw[h];by_cases hc:a<l.length/\b<l.length
 ·rw[if_pos Agm,if_pos hc]
 ·rw[if_neg Agm,if_neg hc]
theorem tQ (l:List RItem)(cs:List AV)(idl:Nat)(hE:EL EItem l cs)(hl:l.length<=16)(hf:∀x∈l,x.fits)(N:St):ACalls Tryz.prog 178 [sl idl l.length cs] N fun r N'=>r=ag (Fu (Wh l))/\Keep N N':=by
 have a4:=EL.length Ci hE;have ax:=G6;refine Z9 86 [.cell 2 228] Tryz.func178 ?_
 refine zz ?_
 refine Ad (fun m s N'=>∃(i:Nat) (M:Nat->Nat->Bool),m=l.length-i/\i<=l.length/\s 0=sl idl l.length cs/\s 2=ptr N.nobj 0/\s 3=ptr (N.nobj+1) 0/\s 4=sc (.int .i64 i)/\Keep N N'/\N'.obj (N.nobj+1)=Fu M/\N.nobj+1<N'.nobj/\(N'.obj N.nobj).length=256/\Q7 l i 0 M) l.length
  ⟨0,fun _ _=>false,Agm,Agm,rfl,rfl,rfl,rfl,Xs,by rw[Ca (by rw[Aa];exact Adc _) (by rw[Aa];exact Adc _),aA],by simp[Aa],by rw[Ah (by rw[Aa];omega),Al,aA,G6],by simp[Q7]⟩ ?_
 rintro m s N' ⟨i,M,rfl,hi,h0,h2,h3,h4,hK,ho,hn,hr,hM⟩;by_cases ac:i<l.length
 ·repeat' first|refine Z1 ?_|refine Z8 fun ya J=>?_|refine Z4 ?_;clear J ya|refine Z2 ?_ ?_<;>intro h aa<;>try exact Xp|refine Z3 ?_|exact Zt|apply J.out;clear J ya
  refine Ad (fun m s N'=>∃(k:Nat) (M:Nat->Nat->Bool),m=l.length-k/\k<=l.length/\s 0=sl idl l.length cs/\s 2=ptr N.nobj 0/\s 3=ptr (N.nobj+1) 0/\s 4=sc (.int .i64 i)/\s 5=sc (.int .i64 k)/\Keep N N'/\N'.obj (N.nobj+1)=Fu M/\N.nobj+1<N'.nobj/\(N'.obj N.nobj).length=256/\Q7 l i k M) l.length
   ⟨0,M,Agm,Agm,by simp[upd,h0],by simp[upd,h2],by simp[upd,h3],by simp[upd,h4],rfl,hK,ho,hn,hr,hM⟩ ?_
  clear hK ho hn hr hM;rintro m s N' ⟨k,M,rfl,hk,h0,h2,h3,h4,h5,hK,ho,hn,hr,hM⟩;by_cases ab:k<l.length
  ·obtain⟨ih1,id1,b1,r1,an,a3⟩:=C4 hE (Adn ac);obtain⟨ih2,id2,b2,r2,a5,a0⟩:=C4 hE (Adn ab);have am:=hf l[i] (Aes ac)
   repeat' first|refine Z1 ?_|refine Z8 fun ya J=>?_|refine Z4 ?_;clear J ya|refine Z2 ?_ ?_<;>intro h aa<;>try exact Xp|refine Z3 ?_|exact Zt|apply J.out;clear J ya
   refine Aw Ag (fun _=>True) [23] [0,1,2,3,4,5,6,7,8,9,10,11,12,13,14,15,16,17,18,21] [19,20,22,23] Agp (fun _ _ _ h=>h) ?_;intro ya J;refine Z3 ?_
   repeat' first|refine Z1 ?_|refine Z8 fun ya J=>?_|refine Z4 ?_;clear J ya|refine Z2 ?_ ?_<;>intro h aa<;>try exact Xp|refine Z5 ?_;refine Xi (Uy _ _ _ (EItem.of an) (by have:=am.1;omega) _) ?_;rintro _ _ ⟨rfl,ah⟩;(have av:=ah.obj;have aw:=ah.nobj)|refine Z3 ?_|exact Zt|apply J.out;clear J ya
   ·exact⟨l.length-(k+1),Agm,k+1,_,rfl,Agm,by simp,(hK.trans ah).put Agm _,Vd M Agm Agm _,Agm,iN hM _ (by simp[Lu,ac,ab, *])⟩
   ·exact⟨l.length-(k+1),Agm,k+1,_,rfl,Agm,by simp,hK.put Agm _,Vd M Agm Agm _,iN hM _ (by simp[Lu,ac,ab, *])⟩
  ·have ae:k=l.length:=Agm;subst ae
   repeat' first|refine Z1 ?_|refine Z8 fun ya J=>?_|refine Z4 ?_;clear J ya|refine Z2 ?_ ?_<;>intro h aa<;>try exact Xp|refine Z3 ?_|exact Zt|apply J.out;clear J ya
   exact⟨l.length-(i+1),Agm,i+1,M,rfl,Agm,by simp,rfl,wG hM⟩
 ·have af:i=l.length:=Agm;subst af;have ao:=wH hM;subst ao;clear hM
  repeat' first|refine Z1 ?_|refine Z8 fun ya J=>?_|refine Z4 ?_;clear J ya|refine Z2 ?_ ?_<;>intro h aa<;>try exact Xp|refine Z3 ?_|exact Zt|apply J.out;clear J ya
  generalize aj:(fun (a b:Nat)=>if a<l.length/\b<l.length then Lu l a b else false)=M0 at ho;have au:Agt _:=aj;clear aj
  refine Ad (fun q s N'=>∃m:Nat,q=l.length-m/\m<=l.length/\s 0=sl idl l.length cs/\s 2=ptr N.nobj 0/\s 3=ptr (N.nobj+1) 0/\s 6=sc (.int .i64 m)/\Keep N N'/\N'.obj (N.nobj+1)=Fu (Hv l.length M0 m)/\N.nobj+1<N'.nobj/\(N'.obj N.nobj).length=256) l.length
   ⟨0,Agm,Agm,by simp[upd,h0],by simp[upd,h2],by simp[upd,h3],rfl,hK,ho,hn,hr⟩ ?_
  clear hK ho hn hr h0 h2 h3 h4 h aa ac hi;rintro q s N' ⟨m,rfl,hm,h0,h2,h3,h6,hK,ho,hn,hr⟩;by_cases ac:m<l.length
  ·generalize ai:Hv l.length M0 m=M at ho;have ap:Agt _:=ai;clear ai
   repeat' first|refine Z1 ?_|refine Z8 fun ya J=>?_|refine Z4 ?_;clear J ya|refine Z2 ?_ ?_<;>intro h aa<;>try exact Xp|refine Z3 ?_|exact Zt|apply J.out;clear J ya
   refine Ad (fun q s N'=>∃(i:Nat) (W:Nat->Nat->Bool),q=l.length-i/\i<=l.length/\s 0=sl idl l.length cs/\s 2=ptr N.nobj 0/\s 3=ptr (N.nobj+1) 0/\s 6=sc (.int .i64 m)/\s 7=sc (.int .i64 i)/\Keep N N'/\N'.obj (N.nobj+1)=Fu W/\N.nobj+1<N'.nobj/\(N'.obj N.nobj).length=256/\part l.length M m i 0 W) l.length
    ⟨0,M,Agm,Agm,by simp[upd,h0],by simp[upd,h2],by simp[upd,h3],by simp[upd,h6],rfl,hK,ho,hn,hr,Y9⟩ ?_
   clear hK ho hn hr h0 h2 h3 h6;rintro q s N' ⟨i,W,rfl,hi,h0,h2,h3,h6,h7,hK,ho,hn,hr,hW⟩;by_cases ab:i<l.length
   ·repeat' first|refine Z1 ?_|refine Z8 fun ya J=>?_|refine Z4 ?_;clear J ya|refine Z2 ?_ ?_<;>intro h aa<;>try exact Xp|refine Z3 ?_|exact Zt|apply J.out;clear J ya
    refine Ad (fun q s N'=>∃(k:Nat) (W:Nat->Nat->Bool),q=l.length-k/\k<=l.length/\s 0=sl idl l.length cs/\s 2=ptr N.nobj 0/\s 3=ptr (N.nobj+1) 0/\s 6=sc (.int .i64 m)/\s 7=sc (.int .i64 i)/\s 8=sc (.int .i64 k)/\Keep N N'/\N'.obj (N.nobj+1)=Fu W/\N.nobj+1<N'.nobj/\(N'.obj N.nobj).length=256/\part l.length M m i k W) l.length
     ⟨0,W,Agm,Agm,by simp[upd,h0],by simp[upd,h2],by simp[upd,h3],by simp[upd,h6],by simp[upd,h7],rfl,hK,ho,hn,hr,hW⟩ ?_
    clear hK ho hn hr h0 h2 h3 h6 h7 hW;rintro q s N' ⟨k,W,rfl,hk,h0,h2,h3,h6,h7,h8,hK,ho,hn,hr,hW⟩;by_cases ad:k<l.length
    ·obtain⟨v1,v2,v3⟩:=Uh hW ad ac;have g1:=Pn W (i:=i) (k:=k) Agm Agm;have g2:=Pn W (i:=i) (k:=m) Agm Agm;have g3:=Pn W (i:=m) (k:=k) Agm Agm;have HV:Agt (W i k=M i k/\W i m=M i m/\W m k=M m k):=⟨v1,v2,v3⟩;clear v1 v2 v3
     repeat' first|refine Z1 ?_|refine Z8 fun ya J=>?_|refine Z4 ?_;clear J ya|refine Z2 ?_ ?_<;>intro h aa<;>try exact Xp|refine Z3 ?_|exact Zt|apply J.out;clear J ya
     refine Aw Ag (fun _=>True) [23] [0,1,2,3,4,5,6,7,8,9,10,11,12,13,14,15,16,17,18,19,20,21] [22,23] Agp (fun _ _ _ h=>h) ?_;intro ya J;refine Z3 ?_
     repeat' first|refine Z1 ?_|refine Z8 fun ya J=>?_|refine Z4 ?_;clear J ya|refine Z2 ?_ ?_<;>intro h aa<;>try exact Xp|refine Z3 ?_|exact Zt|apply J.out;clear J ya
     all_goals exact⟨l.length-(k+1),Agm,k+1,_,rfl,Agm,by simp,hK.put Agm _,Vd W Agm Agm _,gJ hW (by have hv:=HV.out;simp_all [fw])⟩
    ·have ae:k=l.length:=Agm;subst ae
     repeat' first|refine Z1 ?_|refine Z8 fun ya J=>?_|refine Z4 ?_;clear J ya|refine Z2 ?_ ?_<;>intro h aa<;>try exact Xp|refine Z3 ?_|exact Zt|apply J.out;clear J ya
     exact⟨l.length-(i+1),Agm,i+1,W,rfl,Agm,by simp,rfl,gK hW⟩
   ·have af:i=l.length:=Agm;subst af
    repeat' first|refine Z1 ?_|refine Z8 fun ya J=>?_|refine Z4 ?_;clear J ya|refine Z2 ?_ ?_<;>intro h aa<;>try exact Xp|refine Z3 ?_|exact Zt|apply J.out;clear J ya
    refine⟨l.length-(m+1),Agm,m+1,rfl,Agm,by simp,?_⟩;rw[gL hW,<-ap.out];rfl
  ·have ak:m=l.length:=Agm;subst ak;have ay:∀M,List.take 256 (Fu M)=Fu M:=fun M=>Aeq (by rw[G6];exact Adc _);have az:∀M,lsp (N'.obj N.nobj) 0 (Fu M)=Fu M:=fun M=>Hu (by rw[G6,hr])
   repeat' first|refine Z1 ?_|refine Z8 fun ya J=>?_|refine Z4 ?_;clear J ya|refine Z2 ?_ ?_<;>intro h aa<;>try exact Xp|refine Z3 ?_|exact Zt|apply J.out;clear J ya
   exact⟨_,rfl,by rw[Wh,au.out],hK.put (Adc _) _⟩
end Go.Proofs.YtmoeoppbmhfbpaaGreatDoorD
