import Derived.Test.YtmoeoppbmhfbpaaGreatDoorHFacts
set_option maxHeartbeats 4000000
set_option maxRecDepth 100000
set_option linter.all false
namespace Go.Proofs.YtmoeoppbmhfbpaaGreatDoorH
open Go.Abs
def Bl (c:Int):Bool:=decide (97<=c)&&decide (c<=122)
def B6 (c:Int):Bool:=decide (65<=c)&&decide (c<=90)
def Fx (c:Int):Bool:=decide (49<=c)&&decide (c<=57)
theorem Si (c:Int)(N:St):ACalls Tryz.prog 221 [sc (.int .u8 c)] N fun x N'=>x=sc (.bool (Bl c))/\N'=N:=by
 refine Z9 9 [.tmp 2] Tryz.func221 ?_
 repeat' (first|refine Z1 ?_|(refine Z8 ?_;intro ya J)|(refine Z4 ?_;clear J ya)|(refine Z2 ?_ ?_<;>intro h aa<;>try exact Xp)|refine Z3 ?_|exact Zt|(apply J.out;clear J ya))
 all_goals exact⟨_,rfl,by simp[Bl, *]⟩
theorem Mr (c:Int)(N:St):ACalls Tryz.prog 185 [sc (.int .u8 c)] N fun x N'=>x=sc (.bool (B6 c))/\N'=N:=by
 refine Z9 9 [.tmp 2] Tryz.func185 ?_
 repeat' (first|refine Z1 ?_|(refine Z8 ?_;intro ya J)|(refine Z4 ?_;clear J ya)|(refine Z2 ?_ ?_<;>intro h aa<;>try exact Xp)|refine Z3 ?_|exact Zt|(apply J.out;clear J ya))
 all_goals exact⟨_,rfl,by simp[B6, *]⟩
theorem nV (c:Int)(N:St):ACalls Tryz.prog 223 [sc (.int .u8 c)] N fun x N'=>x=sc (.bool (Fx c))/\N'=N:=by
 refine Z9 9 [.tmp 2] Tryz.func223 ?_
 repeat' (first|refine Z1 ?_|(refine Z8 ?_;intro ya J)|(refine Z4 ?_;clear J ya)|(refine Z2 ?_ ?_<;>intro h aa<;>try exact Xp)|refine Z3 ?_|exact Zt|(apply J.out;clear J ya))
 all_goals exact⟨_,rfl,by simp[Fx, *]⟩
structure Scan where
 st:Int
 items:Int
 letters:Int
 digits:Int
 terms:Int
 lits:Int
 head:Bool
def Ih (X:Scan):List AV:=[sc (.int .i64 X.st),sc (.int .i64 X.items),sc (.int .i64 X.letters),sc (.int .i64 X.digits),sc (.int .i64 X.terms),sc (.int .i64 X.lits),sc (.bool X.head)]
theorem kU (o:Nat)(st:Int)(a:AV)(r:List AV)(N:St)(h:N.obj o=a::r):ACalls Tryz.prog 222 [ptr o 0,sc (.int .i64 st)] N fun x N'=>x=sc (.bool true)/\N'=N.put o (sc (.int .i64 st)::r):=by
 refine Z9 9 [.tmp 4] Tryz.func222 ?_
 repeat' (first|refine Z1 ?_|(refine Z8 ?_;intro ya J)|(refine Z4 ?_;clear J ya)|(refine Z2 ?_ ?_<;>intro h aa<;>try exact Xp)|refine Z3 ?_|exact Zt|(apply J.out;clear J ya))
 first|exact⟨_,rfl,rfl,rfl⟩|exact⟨_,rfl,rfl⟩
structure KeepX (o:Nat)(N N':St):Prop where
 nobj:N.nobj<=N'.nobj
 obj:∀p,p<N.nobj->p≠o->N'.obj p=N.obj p
 ver:∀p,p<N.nobj->p≠o->N'.ver p=N.ver p
 ntop:N.ntop<=N'.ntop
 top:∀k,k<N.ntop->N'.top k=N.top k
theorem KeepX.refl (o:Nat)(N:St):KeepX o N N:=⟨Aak _,fun _ _ _=>rfl,fun _ _ _=>rfl,Aak _,fun _ _=>rfl⟩
theorem KeepX.put {o:Nat}{N N':St}(h:KeepX o N N')(cs:List AV):KeepX o N (N'.put o cs):=
 ⟨h.nobj,fun p hp aa=>by simp[St.put,aa];exact h.obj p hp aa,fun p hp aa=>by simp[St.put,aa];exact h.ver p hp aa,h.ntop,h.top⟩
theorem KeepX.trans {o:Nat}{a b c:St}(h:KeepX o a b)(k:KeepX o b c):KeepX o a c:=
 ⟨Aal h.nobj k.nobj,fun p hp aa=>(k.obj p (Aam hp h.nobj) aa).trans (h.obj p hp aa),fun p hp aa=>(k.ver p (Aam hp h.nobj) aa).trans (h.ver p hp aa),
  Aal h.ntop k.ntop,fun j hj=>(k.top j (Aam hj h.ntop)).trans (h.top j hj)⟩
theorem KeepX.keep {o:Nat}{a b c:St}(h:Keep a b)(k:KeepX o b c)(ho:a.nobj<=o):Keep a c:=
 ⟨Aal h.nobj k.nobj,fun p hp=>(k.obj p (Aam hp h.nobj) Ad2).trans (h.obj p hp),fun p hp=>(k.ver p (Aam hp h.nobj) Ad2).trans (h.ver p hp),
  Aal h.ntop k.ntop,fun j hj=>(k.top j (Aam hj h.ntop)).trans (h.top j hj)⟩
def Di (X:Scan)(c:Int):Scan×Bool:=
 if (X.st==5)=true then
  if Bl c=true/\decide (X.letters<6)=true then ({X with letters:=X.letters+1},true)
  else if (c==40)=true then ({X with terms:=0,st:=6},true)else ({X with terms:=0},false)
 else if (X.st==6)=true then
  if Fx c=true then ({X with terms:=X.terms+1,digits:=1,st:=7},true)
  else if B6 c=true\/(c==48)=true then ({X with terms:=X.terms+1,digits:=1,st:=8},true)else ({X with terms:=X.terms+1,digits:=1},false)
 else if (X.st==7)=true/\decide (X.digits<3)=true/\(Fx c=true\/(c==48)=true)then ({X with digits:=X.digits+1},true)
 else if (c==41)=true then ({X with lits:=if (!X.head)=true then X.lits+1 else X.lits,st:=9},true)
 else if (c==44)=true/\decide (X.terms<3)=true then ({X with st:=6},true)else (X,false)
def Ch (X:Scan)(c:Int):Scan×Bool:=
 if (X.st==0)=true then
  if (X.items==16)=true then (X,false)
  else if (c==63)=true then ({X with head:=true,letters:=0,lits:=0,st:=1},true)
  else if Bl c=true then ({X with head:=true,letters:=1,lits:=0,st:=5},true)else ({X with head:=true,letters:=1,lits:=0},false)
 else if (X.st==1)=true\/(X.st==2)=true then
  if Bl c=true/\decide (X.letters<6)=true then ({X with letters:=X.letters+1,st:=2},true)
  else if (c==46)=true/\(X.st==2)=true then ({X with items:=X.items+1,st:=0},true)else (X,false)
 else if (X.st==3)=true\/(X.st==4)=true then
  if (c==33)=true/\(X.st==3)=true then ({X with letters:=1,st:=4},true)
  else if Bl c=true then ({X with letters:=1,st:=5},true)else ({X with letters:=1},false)
 else if (X.st==10)=true then
  if (c==45)=true then ({X with head:=false,st:=3},true)else ({X with head:=false},false)
 else if (c==46)=true then ({X with items:=X.items+1,st:=0},true)
 else if (c==58)=true/\X.head=true then ({X with st:=10},true)
 else if (c==44)=true/\(!X.head)=true/\decide (X.lits<5)=true then ({X with st:=3},true)else (X,false)
def Scan.small (X:Scan):Prop:=X.items<=100000/\X.letters<=100000/\X.digits<=100000/\X.terms<=100000/\X.lits<=100000/\0<=X.items/\0<=X.letters/\0<=X.digits/\0<=X.terms/\0<=X.lits
theorem iJ (o:Nat)(X:Scan)(hX:X.small)(c:Int)(N:St)(h:N.obj o=Ih X):
  ACalls Tryz.prog 174 [ptr o 0,sc (.int .u8 c)] N fun x N'=>x=sc (.bool (Di X c).2)/\N'.obj o=Ih (Di X c).1/\KeepX o N N':=by
 obtain⟨b1,b2,b3,b4,b5,b6,b7,b8,b9,b10⟩:=hX;obtain⟨st,items,letters,digits,terms,lits,head⟩:=X;unfold Ih at*
 simp only at*
 refine Z9 118 [.tmp 4] Tryz.func174 ?_
 repeat' (first|refine Z1 ?_|(refine Z8 ?_;intro ya J)|(refine Z4 ?_;clear J ya)|(refine Z2 ?_ ?_<;>intro h aa<;>try exact Xp)|(refine Z5 ?_;first|(refine Xi (Si _ _) ?_;rintro _ _ ⟨rfl,rfl⟩)|(refine Xi (nV _ _) ?_;rintro _ _ ⟨rfl,rfl⟩)|(refine Xi (Mr _ _) ?_;rintro _ _ ⟨rfl,rfl⟩)|(refine Xi (kU _ _ _ _ _ (by first|assumption|(simp only[Ak];rfl))) ?_;rintro _ _ ⟨rfl,rfl⟩))|refine Z3 ?_|exact Zt|(apply J.out;clear J ya))
 all_goals exact⟨_,rfl,by simp only[Di, *,↓reduceIte,Abq,and_self,or_self,Ad0,and_true,true_or,or_true,false_or,Ad1,and_false,false_and,reduceCtorEq,if_true,if_false,Ady,Adz,Abr,Abw],by simp only[Di, *,↓reduceIte,Abq,and_self,or_self,Ad0,and_true,true_or,or_true,false_or,Ad1,and_false,false_and,reduceCtorEq,if_true,if_false,Ady,Adz,Abr,Abw],by repeat (first|exact KeepX.refl _ _|apply KeepX.put)⟩
theorem gY (o:Nat)(X:Scan)(hX:X.small)(c:Int)(N:St)(h:N.obj o=Ih X):
  ACalls Tryz.prog 175 [ptr o 0,sc (.int .u8 c)] N fun x N'=>x=sc (.bool (Ch X c).2)/\N'.obj o=Ih (Ch X c).1/\KeepX o N N':=by
 obtain⟨b1,b2,b3,b4,b5,b6,b7,b8,b9,b10⟩:=hX;obtain⟨st,items,letters,digits,terms,lits,head⟩:=X;unfold Ih at*
 simp only at*
 refine Z9 154 [.tmp 4] Tryz.func175 ?_
 repeat' (first|refine Z1 ?_|(refine Z8 ?_;intro ya J)|(refine Z4 ?_;clear J ya)|(refine Z2 ?_ ?_<;>intro h aa<;>try exact Xp)|(refine Z5 ?_;first|(refine Xi (Si _ _) ?_;rintro _ _ ⟨rfl,rfl⟩)|(refine Xi (kU _ _ _ _ _ (by first|assumption|(simp only[Ak];rfl))) ?_;rintro _ _ ⟨rfl,rfl⟩))|refine Z3 ?_|exact Zt|(apply J.out;clear J ya))
 all_goals exact⟨_,rfl,by simp only[Ch, *,↓reduceIte,Abq,and_self,or_self,Ad0,and_true,true_or,or_true,false_or,Ad1,and_false,false_and,reduceCtorEq,if_true,if_false,Ady,Adz,Abr,Abw],by simp only[Ch, *,↓reduceIte,Abq,and_self,or_self,Ad0,and_true,true_or,or_true,false_or,Ad1,and_false,false_and,reduceCtorEq,if_true,if_false,Ady,Adz,Abr,Abw],by repeat (first|exact KeepX.refl _ _|apply KeepX.put)⟩
def Bt (l:List UInt8)(c:Int):Nat:=l.findIdx fun x=>(x.toNat:Int)==c
theorem Oc (l:List UInt8)(c:Int):Bt l c<=l.length:=List.findIdx_le_length
theorem oL (l:List UInt8)(c:Int)(k:Nat)(hk:k<l.length)(hn:∀(j:Nat),j<k->∀(x:UInt8),l[j]?=some x->((x.toNat:Int)==c)=false)(hc:((l[k].toNat:Int)==c)=true):Bt l c=k:=by
 unfold Bt;rw[List.findIdx_eq hk];exact⟨hc,fun j hj=>hn j hj _ (Aav _)⟩
theorem iQ (l:List UInt8)(c:Int)(hn:∀(j:Nat),j<l.length->∀(x:UInt8),l[j]?=some x->((x.toNat:Int)==c)=false):Bt l c=l.length:=by
 unfold Bt;rw[List.findIdx_eq_length];intro x hx;obtain⟨j,hj,he⟩:=List.mem_iff_getElem.1 hx;exact hn j hj x (by rw[<-he];exact Aav _)
theorem Lo (l:List UInt8)(c:Int)(hb:l.length<=100000)(N:St):ACalls Tryz.prog 99 [str l,sc (.int .u8 c)] N fun x N'=>x=sc (.int .i64 (Bt l c))/\N'=N:=by
 refine Z9 20 [.tmp 4] Tryz.func99 ?_
 repeat' (first|refine Z1 ?_|(refine Z8 ?_;intro ya J)|(refine Z4 ?_;clear J ya)|(refine Z2 ?_ ?_<;>intro h aa<;>try exact Xp)|refine Z3 ?_|exact Zt|(apply J.out;clear J ya))
 refine Ab (fun m s N'=>∃k:Nat,m=l.length-k/\k<=l.length/\s 0=str l/\s 1=sc (.int .u8 c)/\s 5=sc (.int .i64 k)/\N'=N/\
  ∀(j:Nat),j<k->∀(x:UInt8),l[j]?=some x->((x.toNat:Int)==c)=false) l.length ⟨0,Ad2,Ad2,rfl,rfl,rfl,rfl,fun j h=>Ad2⟩ ?_
 rintro m s N' ⟨k,rfl,hk,h0,h1,h5,rfl,ab⟩;by_cases ac:k<l.length
 ·have af:=Aav ac
  repeat' (first|refine Z1 ?_|(refine Z8 ?_;intro ya J)|(refine Z4 ?_;clear J ya)|(refine Z2 ?_ ?_<;>intro h aa<;>try exact Xp)|refine Z3 ?_|exact Zt|(apply J.out;clear J ya))
  ·exact⟨_,rfl,by rw[oL l c k ac ab (by assumption)]⟩
  ·refine⟨l.length-(k+1),Ad2,k+1,rfl,Ad2,by simp,fun j hj x hx=>?_⟩;by_cases ae:j=k
   ·subst ae;rw[af]at hx;cases hx;assumption
   ·exact ab j Ad2 x hx
 ·have ad:k=l.length:=Ad2
  repeat' (first|refine Z1 ?_|(refine Z8 ?_;intro ya J)|(refine Z4 ?_;clear J ya)|(refine Z2 ?_ ?_<;>intro h aa<;>try exact Xp)|refine Z3 ?_|exact Zt|(apply J.out;clear J ya))
  exact⟨_,rfl,by rw[iQ l c (by rw[ad]at ab;exact ab)]⟩
def Bn (c:Int):List UInt8->Bool->List UInt8->List (List UInt8)
 |[],_,cur=>if cur=[]then []else [cur]
 |b::r,deep,cur=>
  let d1:=if ((b.toNat:Int)==40)=true then true else deep
  let d2:=if ((b.toNat:Int)==41)=true then false else d1
  if ((b.toNat:Int)==c)=true/\d2=false then cur::Bn c r d2 []else Bn c r d2 (cur++[b])
def E9 (s:List UInt8)(c:Int):List (List UInt8):=Bn c s false []
theorem Iu (c:Int):∀(s:List UInt8) (d:Bool) (cur:List UInt8),(Bn c s d cur).length<=s.length+1
 |[],d,cur=>by unfold Bn;split<;>simp
 |b::r,d,cur=>by
  unfold Bn
  all_goals
   simp only[];generalize (if ((b.toNat:Int)==41)=true then false else _)=d2;split
   ·have:=Iu c r d2 [];simp;omega
   ·have:=Iu c r d2 (cur++[b]);simp;omega
theorem Xy {s:List UInt8}{k:Nat}(h:k<s.length):s.drop k=s[k]::s.drop (k+1):=Abx h
theorem mU {s:List UInt8}{f k:Nat}(hf:f<=k)(h:k<s.length):(s.drop f).take (k+1-f)=(s.drop f).take (k-f)++[s[k]]:=by
 rw[show k+1-f=(k-f)+1 by omega,Aa8,Aat,show f+(k-f)=k by omega,Aav h];rfl
theorem K3 (l:List UInt8)(c:Int)(hb:l.length<=100000)(N:St):ACalls Tryz.prog 95 [str l,sc (.int .u8 c)] N fun x N'=>∃id,x=sl id (E9 l c).length ((E9 l c).map str)/\Keep N N':=by
 refine Z9 52 [.tmp 4] Tryz.func95 ?_
 repeat' (first|refine Z1 ?_|(refine Z8 ?_;intro ya J)|(refine Z4 ?_;clear J ya)|(refine Z2 ?_ ?_<;>intro h ad<;>try exact Xp)|(refine Z6 ?_;intro idn Nn ai aj af ac ae ab)|refine Z3 ?_|exact Zt|(apply J.out;clear J ya))
 refine Ab (fun m s N'=>∃(k f id:Nat) (d:Bool) (acc:List (List UInt8)),m=l.length-k/\k<=l.length/\f<=k/\s 0=str l/\s 1=sc (.int .u8 c)/\s 5=sl id acc.length (acc.map str)/\s 6=sc (.bool d)/\s 7=sc (.int .i64 f)/\s 8=sc (.int .i64 k)/\
  Keep N N'/\Own N N' id acc.length/\acc.length<=k/\Ad8 (E9 l c=acc++Bn c (l.drop k) d ((l.drop f).take (k-f)))) l.length ⟨0,0,1,false,[],Ad2,Ad2,Ad2,rfl,rfl,rfl,rfl,rfl,rfl,Keep.refl _,Own.nil _ _,by simp,rfl⟩ ?_
 rintro m s N' ⟨k,f,id,d,acc,rfl,hk,an,h0,h1,h5,h6,h7,h8,hK,hO,ap,aa⟩;by_cases ah:k<l.length
 ·have ao:=Aav ah
  repeat' (first|refine Z1 ?_|(refine Z8 ?_;intro ya J)|(refine Z4 ?_;clear J ya)|(refine Z2 ?_ ?_<;>intro h ad<;>try exact Xp)|(refine Z6 ?_;intro idn Nn ai aj af ac ae ab)|refine Z3 ?_|exact Zt|(apply J.out;clear J ya))
  all_goals first
   |(refine⟨l.length-(k+1),Ad2,k+1,k+1,idn,_,acc++[(l.drop f).take (k-f)],rfl,Ad2,Ad2,by simp,rfl,by simp,by simp,by simpa using ai,by simp;omega,?_⟩
     have hc:=aa.out;rw[Xy ah]at hc;simp only[Bn, *,↓reduceIte,and_self,Abq]at hc;rw[Ad8,hc]
     try first|(simp;done)|(cases d<;>simp at h⊢))
   |(refine⟨l.length-(k+1),Ad2,k+1,f,id,_,acc,rfl,Ad2,Ad2,rfl,rfl,rfl,by simp,hO,Ad2,?_⟩
     have hc:=aa.out;rw[Xy ah]at hc;simp only[Bn, *,↓reduceIte,and_self,and_false,false_and,reduceCtorEq,Abq]at hc;rw[Ad8,hc,mU an ah]
     try first|rfl|(cases d<;>simp at h⊢))
 ·have hc:=aa.out;have am:k=l.length:=Ad2;subst am;simp only[Aby,Bn]at hc;have ak:(l.drop f).take (l.length-f)=l.drop f:=Abz (by simp);rw[ak]at hc;have HC:=(show Ad8 _ from hc);clear hc aa ak
  repeat' (first|refine Z1 ?_|(refine Z8 ?_;intro ya J)|(refine Z4 ?_;clear J ya)|(refine Z2 ?_ ?_<;>intro h ad<;>try exact Xp)|(refine Z6 ?_;intro idn Nn ai aj af ac ae ab)|refine Z3 ?_|exact Zt|(apply J.out;clear J ya))
  ·first|refine⟨_,rfl,idn,?_,aj⟩|refine⟨_,rfl,idn,?_⟩
   have hc:=HC.out;rw[if_neg (by intro e;have:=congrArg List.length e;simp at this;omega)]at hc;rw[hc];simp
   try rw[Abz (by simp)]
  ·first|refine⟨_,rfl,id,?_,hK⟩|refine⟨_,rfl,id,?_⟩
   have hc:=HC.out;rw[if_pos (by apply Aa1;simp;omega)]at hc;rw[hc];simp
structure RAtom where
 nt:Bool
 pred:List UInt8
 terms:List (List UInt8)
structure RItem where
 out:Bool
 head:RAtom
 body:List RAtom
def Be (a:RAtom)(c:List AV):Prop:=∃id,c=[sc (.bool a.nt),str a.pred,sl id a.terms.length (a.terms.map str)]
theorem Ba (a:RAtom)(c:List AV)(h:Be a c):c.length=3:=by obtain⟨id,rfl⟩:=h;rfl
def EItem (x:RItem)(c:List AV):Prop:=∃h id b,Be x.head h/\EL Be x.body b/\c=sc (.bool x.out)::h++[sl id x.body.length b]
theorem Cb (x:RItem)(c:List AV)(h:EItem x c):c.length=5:=by
 obtain⟨h,id,b,⟨i,rfl⟩,-,rfl⟩:=h;rfl
def L6:List UInt8->Bool
 |[]=>false
 |b::_=>(b.toNat:Int)==33
def Hp (s:List UInt8):List UInt8:=if L6 s then (s.drop 1).take (s.length-1)else s
def L8 (nt:Bool)(s:List UInt8):RAtom:=
 {nt:=nt,pred:=(s.drop 0).take (Bt s 40-0),terms:=if Bt s 40+1<s.length then E9 ((s.drop (Bt s 40+1)).take (s.length-1-(Bt s 40+1))) 44 else []}
def De (s:List UInt8):RAtom:=L8 (L6 s) (Hp s)
theorem Ps (l:List UInt8)(hb:l.length<=10000)(N:St):ACalls Tryz.prog 138 [str l] N fun x N'=>∃c,x=ag c/\Be (De l) c/\Keep N N':=by
 refine Z9 36 [.cell 2 143] Tryz.func138 ?_;have ac:∀(m:List UInt8),((Bt m 40:Nat):Int)<=(m.length:Int):=fun m=>by have:=Oc m 40;omega
 cases l with
 |nil=>
  have ae:(([]:List UInt8)==[])=true:=rfl;have hf:=ac [];simp only[Abu]at hf ac
  repeat' (first|refine Z1 ?_|(refine Z8 ?_;intro ya J)|(refine Z4 ?_;clear J ya)|(refine Z2 ?_ ?_<;>intro h aa<;>try exact Xp)|(refine Z5 ?_;first|(refine Xi (Lo _ _ (by simp) _) ?_;rintro _ _ ⟨rfl,rfl⟩)|(refine Xi (K3 _ _ (by simp) _) ?_;rintro _ _ ⟨idc,rfl,ab⟩;(have ko:=ab.obj;simp only[Aa,Ac]at ko)))|refine Z3 ?_|exact Zt|(apply J.out;clear J ya))
  exact⟨_,rfl,_,rfl,⟨1,by simp[De,L8,L6,Hp]⟩,Xs⟩
 |cons b r=>
  have ae:(b::r==([]:List UInt8))=false:=rfl;simp only[Abv]at hb;have ad:(b::r)[0]?=some b:=rfl;have hf:=Oc r 40;have af:=Oc (b::r) 40;simp only[Abv]at af
  repeat' (first|refine Z1 ?_|(refine Z8 ?_;intro ya J)|(refine Z4 ?_;clear J ya)|(refine Z2 ?_ ?_<;>intro h aa<;>try exact Xp)|(refine Z5 ?_;first|(refine Xi (Lo _ _ (by first|omega|(simp;omega)) _) ?_;rintro _ _ ⟨rfl,rfl⟩)|(refine Xi (K3 _ _ (by first|omega|(simp;omega)) _) ?_;rintro _ _ ⟨idc,rfl,ab⟩;(have ko:=ab.obj;simp only[Aa,Ac]at ko)))|refine Z3 ?_|exact Zt|(apply J.out;clear J ya))
  ·have hq:Bt r 40+1<r.length:=Ad2;exact⟨_,rfl,_,rfl,⟨idc,by simp[De,L8,L6,Hp, *]⟩,Xs⟩
  ·have hq:¬Bt r 40+1<r.length:=Ad2;exact⟨_,rfl,_,rfl,⟨1,by simp[De,L8,L6,Hp, *]⟩,Xs⟩
  ·have hq:Bt (b::r) 40<r.length:=Ad2;exact⟨_,rfl,_,rfl,⟨idc,by simp[De,L8,L6,Hp, *]⟩,Xs⟩
  ·have hq:¬Bt (b::r) 40<r.length:=Ad2;exact⟨_,rfl,_,rfl,⟨1,by simp[De,L8,L6,Hp, *]⟩,Xs⟩
theorem any_take_succ {α:Type}{l:List α}{k:Nat}{a:α}(p:α->Bool)(h:l[k]?=some a):(l.take (k+1)).any p=((l.take k).any p||p a):=by
 rw[Aa8,h];simp
theorem Dq {α:Type}{l:List α}{k:Nat}{a:α}(p:α->Bool)(h:l[k]?=some a)(hp:p a=true):l.any p=true:=
 Ab0.2 ⟨a,Aax h,hp⟩
def Ag:List UInt8->Bool
 |[]=>false
 |b::_=>B6 b.toNat
theorem Dt (l:List UInt8)(N:St):ACalls Tryz.prog 145 [str l] N fun x N'=>x=sc (.bool (Ag l))/\N'=N:=by
 refine Z9 10 [.tmp 2] Tryz.func145 ?_;cases l with
 |nil=>
  have ac:(([]:List UInt8)==[])=true:=rfl
  repeat' (first|refine Z1 ?_|(refine Z8 ?_;intro ya J)|(refine Z4 ?_;clear J ya)|(refine Z2 ?_ ?_<;>intro h aa<;>try exact Xp)|(refine Z5 ?_;refine Xi (Mr _ _) ?_;rintro _ _ ⟨rfl,rfl⟩)|refine Z3 ?_|exact Zt|(apply J.out;clear J ya))
  all_goals exact⟨_,rfl,by simp[Ag]⟩
 |cons b r=>
  have ac:(b::r==([]:List UInt8))=false:=rfl;have ab:(b::r)[0]?=some b:=rfl
  repeat' (first|refine Z1 ?_|(refine Z8 ?_;intro ya J)|(refine Z4 ?_;clear J ya)|(refine Z2 ?_ ?_<;>intro h aa<;>try exact Xp)|(refine Z5 ?_;refine Xi (Mr _ _) ?_;rintro _ _ ⟨rfl,rfl⟩)|refine Z3 ?_|exact Zt|(apply J.out;clear J ya))
  all_goals exact⟨_,rfl,by simp[Ag]⟩
def Af (x:RItem):List RAtom:=(if x.out=true then []else [x.head])++x.body
abbrev Bo (x:RItem)(ih id:Nat)(b:List AV):List AV:=[sc (.bool x.out),sc (.bool x.head.nt),str x.head.pred,sl ih x.head.terms.length (x.head.terms.map str),sl id x.body.length b]
theorem EItem.cells {x:RItem}{c:List AV}(h:EItem x c):∃ih id b,EL Be x.body b/\c=Bo x ih id b:=by
 obtain⟨h,id,b,⟨i,rfl⟩,hb,rfl⟩:=h;exact⟨i,id,b,hb,rfl⟩
theorem EItem.of {x:RItem}{ih id:Nat}{b:List AV}(h:EL Be x.body b):EItem x (Bo x ih id b):=⟨_,id,b,⟨ih,rfl⟩,h,rfl⟩
theorem B8 {l:List RAtom}{cs:List AV}{i:Nat}{a:RAtom}(h:EL Be l cs)(hi:l[i]?=some a):∃ia r,cs.drop (i*3)=sc (.bool a.nt)::str a.pred::sl ia a.terms.length (a.terms.map str)::r:=by
 obtain⟨c,r,⟨ia,rfl⟩,e⟩:=EL.get Ba h hi;exact⟨ia,r,e⟩
theorem iB (x:RItem)(p:List UInt8)(c:List AV)(hc:EItem x c)(hn:x.body.length<=100000)(N:St):ACalls Tryz.prog 224 [ag c,str p] N fun r N'=>r=sc (.bool (x.body.any fun a=>a.pred==p))/\Keep N N':=by
 obtain⟨ih,id,b,hb,rfl⟩:=hc.cells;have ae:=EL.length Ba hb;refine Z9 21 [.tmp 4] Tryz.func224 ?_
 repeat' (first|refine Z1 ?_|(refine Z8 ?_;intro ya J)|(refine Z4 ?_;clear J ya)|(refine Z2 ?_ ?_<;>intro h aa<;>try exact Xp)|refine Z3 ?_|exact Zt|(apply J.out;clear J ya))
 refine Ab (fun m s N'=>∃k:Nat,m=x.body.length-k/\k<=x.body.length/\s 2=ptr N.nobj 0/\s 1=str p/\s 5=sc (.int .i64 k)/\N'=N.new (Bo x ih id b)/\Ad8 ((x.body.take k).any (fun a=>a.pred==p)=false)) x.body.length
  ⟨0,Ad2,Ad2,rfl,rfl,rfl,rfl,by simp[Ad8]⟩ ?_
 rintro m s N' ⟨k,rfl,hk,h2,h1,h5,rfl,ab⟩;by_cases ac:k<x.body.length
 ·obtain⟨ia,r,hd⟩:=B8 hb (Aav ac)
  repeat' (first|refine Z1 ?_|(refine Z8 ?_;intro ya J)|(refine Z4 ?_;clear J ya)|(refine Z2 ?_ ?_<;>intro h aa<;>try exact Xp)|refine Z3 ?_|exact Zt|(apply J.out;clear J ya))
  ·exact⟨_,rfl,by rw[Dq _ (Aav ac) (by assumption)],Xs⟩
  ·exact⟨x.body.length-(k+1),Ad2,k+1,rfl,Ad2,by simp,by rw[Ad8,any_take_succ _ (Aav ac),ab.out];simpa using h⟩
 ·have ad:k=x.body.length:=Ad2;subst ad;rw[Aa3]at ab
  repeat' (first|refine Z1 ?_|(refine Z8 ?_;intro ya J)|(refine Z4 ?_;clear J ya)|(refine Z2 ?_ ?_<;>intro h aa<;>try exact Xp)|refine Z3 ?_|exact Zt|(apply J.out;clear J ya))
  exact⟨_,rfl,by rw[ab.out],Xs⟩
def Mk (x:RItem):List RAtom:=if x.out=true then []else [x.head]
def eU (x:RItem)(ih id:Nat)(b:List AV)(N:St)(m:Nat)(s:Sl)(N':St):Prop:=
 ∃(k id3:Nat) (xs:List AV),m=x.body.length-k/\k<=x.body.length/\s 1=ptr N.nobj 0/\s 3=sl id3 ((Mk x).length+k) xs/\s 4=sc (.int .i64 k)/\Keep N N'/\Own N N' id3 ((Mk x).length+k)/\
  N'.obj N.nobj=Bo x ih id b/\N.nobj<N'.nobj/\Ad8 (EL Be (Mk x++x.body.take k) xs)
theorem Mz (x:RItem)(c:List AV)(hc:EItem x c)(hn:x.body.length<=100000)(N:St):ACalls Tryz.prog 139 [ag c] N fun r N'=>∃id cs,r=sl id (Af x).length cs/\EL Be (Af x) cs/\Keep N N':=by
 obtain⟨ih,id,b,hb,rfl⟩:=hc.cells;have ao:=EL.length Ba hb;have an:(Mk x).length<=1:=by unfold Mk;split<;>simp
 refine Z9 29 [.tmp 2] Tryz.func139 ?_
 repeat' (first|refine Z1 ?_|(refine Z8 ?_;intro ya J)|(refine Z4 ?_;clear J ya)|(refine Z2 ?_ ?_<;>intro h ad<;>try exact Xp)|(refine Z6 ?_;intro idn Nn af ah ac ab ae aa)|refine Z3 ?_|exact Zt|(apply J.out;clear J ya))
 ·refine Ab (eU x ih id b N) x.body.length ⟨0,_,_,Ad2,Ad2,rfl,by unfold Mk;rw[if_neg (by simpa using h)];rfl,rfl,Xs,?_,by simp[St.new,St.lay],by simp[St.new,St.lay],?_⟩ ?_
  ·unfold Mk;rw[if_neg (by simpa using h)];exact Own.made (Xs) (by decide)
  ·unfold Mk;rw[if_neg (by simpa using h)];exact EL.single ⟨_,rfl⟩
  rintro m s N' ⟨k,id3,xs,rfl,hk,h1,h3,h4,hK,hO,ho,am,hE⟩;have aj:=EL.length Ba hE.out;simp only[Abj,Abk,Abp hk]at aj;by_cases ai:k<x.body.length
  ·obtain⟨ia,r,hd⟩:=B8 hb (Aav ai)
   repeat' (first|refine Z1 ?_|(refine Z8 ?_;intro ya J)|(refine Z4 ?_;clear J ya)|(refine Z2 ?_ ?_<;>intro h ad<;>try exact Xp)|(refine Z6 ?_;intro idn Nn af ah ac ab ae aa)|refine Z3 ?_|exact Zt|(apply J.out;clear J ya))
   refine⟨x.body.length-(k+1),Ad2,k+1,idn,_,rfl,Ad2,by simp[upd,h1],rfl,Ad4,ah,by simpa[Aa5]using af,by rw[ac];exact ho,Ad2,?_⟩;rw[Ad8,Aa8,Aav ai,<-Abl];exact hE.out.append (EL.single ⟨_,rfl⟩)
  ·have ak:k=x.body.length:=Ad2;subst ak;rw[Aa3]at hE
   repeat' (first|refine Z1 ?_|(refine Z8 ?_;intro ya J)|(refine Z4 ?_;clear J ya)|(refine Z2 ?_ ?_<;>intro h ad<;>try exact Xp)|(refine Z6 ?_;intro idn Nn af ah ac ab ae aa)|refine Z3 ?_|exact Zt|(apply J.out;clear J ya))
   first|exact⟨_,rfl,id3,xs,by simp[Af,Mk],hE.out,hK⟩|exact⟨_,rfl,id3,xs,by simp[Af,Mk],hE.out⟩
 ·refine Ab (eU x ih id b N) x.body.length ⟨0,_,_,Ad2,Ad2,rfl,by unfold Mk;rw[if_pos (by simpa using h)];rfl,rfl,Xs,?_,by simp[St.new,St.lay],by simp[St.new,St.lay],?_⟩ ?_
  ·unfold Mk;rw[if_pos (by simpa using h)];exact Own.nil _ _
  ·unfold Mk;rw[if_pos (by simpa using h)];rfl
  rintro m s N' ⟨k,id3,xs,rfl,hk,h1,h3,h4,hK,hO,ho,am,hE⟩;have aj:=EL.length Ba hE.out;simp only[Abj,Abk,Abp hk]at aj;by_cases ai:k<x.body.length
  ·obtain⟨ia,r,hd⟩:=B8 hb (Aav ai)
   repeat' (first|refine Z1 ?_|(refine Z8 ?_;intro ya J)|(refine Z4 ?_;clear J ya)|(refine Z2 ?_ ?_<;>intro h ad<;>try exact Xp)|(refine Z6 ?_;intro idn Nn af ah ac ab ae aa)|refine Z3 ?_|exact Zt|(apply J.out;clear J ya))
   refine⟨x.body.length-(k+1),Ad2,k+1,idn,_,rfl,Ad2,by simp[upd,h1],rfl,Ad4,ah,by simpa[Aa5]using af,by rw[ac];exact ho,Ad2,?_⟩;rw[Ad8,Aa8,Aav ai,<-Abl];exact hE.out.append (EL.single ⟨_,rfl⟩)
  ·have ak:k=x.body.length:=Ad2;subst ak;rw[Aa3]at hE
   repeat' (first|refine Z1 ?_|(refine Z8 ?_;intro ya J)|(refine Z4 ?_;clear J ya)|(refine Z2 ?_ ?_<;>intro h ad<;>try exact Xp)|(refine Z6 ?_;intro idn Nn af ah ac ab ae aa)|refine Z3 ?_|exact Zt|(apply J.out;clear J ya))
   first|exact⟨_,rfl,id3,xs,by simp[Af,Mk],hE.out,hK⟩|exact⟨_,rfl,id3,xs,by simp[Af,Mk],hE.out⟩
def zY (a:RAtom)(t:List UInt8)(k:Nat):Prop:=(a.terms.take k).any (fun u=>!a.nt&&u==t)=false
def vC (x:RItem)(t:List UInt8)(j:Nat):Prop:=(x.body.take j).any (fun a=>a.terms.any fun u=>!a.nt&&u==t)=false
def Hz (x:RItem)(t:List UInt8):Bool:=x.body.any fun a=>a.terms.any fun u=>!a.nt&&u==t
theorem Bc {l:List (List UInt8)}{k:Nat}(h:k<l.length):(l.map str).drop k=str l[k]::(l.map str).drop (k+1):=by
 rw[Abx (by simpa using h)];simp
theorem jC (x:RItem)(t:List UInt8)(c:List AV)(hc:EItem x c)(hn:x.body.length<=100000)(ht:∀a∈x.body,a.terms.length<=100000)(N:St):ACalls Tryz.prog 181 [ag c,str t] N fun r N'=>r=sc (.bool (Hz x t))/\Keep N N':=by
 obtain⟨ih,id,b,hb,rfl⟩:=hc.cells;have ak:=EL.length Ba hb;refine Z9 45 [.tmp 4] Tryz.func181 ?_
 repeat' (first|refine Z1 ?_|(refine Z8 ?_;intro ya J)|(refine Z4 ?_;clear J ya)|(refine Z2 ?_ ?_<;>intro h aa<;>try exact Xp)|refine Z3 ?_|exact Zt|(apply J.out;clear J ya))
 refine Ab (fun m s N'=>∃j:Nat,m=x.body.length-j/\j<=x.body.length/\s 2=ptr N.nobj 0/\s 1=str t/\s 5=sc (.int .i64 j)/\N'=N.new (Bo x ih id b)/\vC x t j) x.body.length
  ⟨0,Ad2,Ad2,rfl,rfl,rfl,rfl,by simp[vC]⟩ ?_
 rintro m s N' ⟨j,rfl,hj,h2,h1,h5,rfl,ae⟩;by_cases af:j<x.body.length
 ·obtain⟨ia,r,hd⟩:=B8 hb (Aav af);have ad:=Aav af;have ai:=ht x.body[j] (Ab1 af);generalize x.body[j]=a at hd ad ai;have HG:Ad8 (x.body[j]?=some a):=ad;clear ad
  repeat' (first|refine Z1 ?_|(refine Z8 ?_;intro ya J)|(refine Z4 ?_;clear J ya)|(refine Z2 ?_ ?_<;>intro h aa<;>try exact Xp)|refine Z3 ?_|exact Zt|(apply J.out;clear J ya))
  refine Ab (fun m2 s N'=>∃k:Nat,m2=a.terms.length-k/\k<=a.terms.length/\s 2=ptr N.nobj 0/\s 1=str t/\s 5=sc (.int .i64 j)/\s 6=sc (.int .i64 k)/\N'=N.new (Bo x ih id b)/\zY a t k) a.terms.length
   ⟨0,Ad2,Ad2,by simp[upd,h2],by simp[upd,h1],by simp[upd,h5],rfl,rfl,by simp[zY]⟩ ?_
  rintro m2 s2 N2 ⟨k,rfl,hk,g2,g1,g5,g6,rfl,ab⟩;by_cases ac:k<a.terms.length
  ·have aj:=Bc ac
   repeat' (first|refine Z1 ?_|(refine Z8 ?_;intro ya J)|(refine Z4 ?_;clear J ya)|(refine Z2 ?_ ?_<;>intro h aa<;>try exact Xp)|refine Z3 ?_|exact Zt|(apply J.out;clear J ya))
   ·exact⟨_,rfl,by rw[Hz,Dq _ HG.out (Dq _ (Aav ac) (by simp[*]))],Xs⟩
   all_goals exact⟨a.terms.length-(k+1),Ad2,k+1,rfl,Ad2,by simp,by unfold zY at*;rw[any_take_succ _ (Aav ac),ab];simp[*]⟩
  ·have ah:k=a.terms.length:=Ad2;subst ah
   repeat' (first|refine Z1 ?_|(refine Z8 ?_;intro ya J)|(refine Z4 ?_;clear J ya)|(refine Z2 ?_ ?_<;>intro h aa<;>try exact Xp)|refine Z3 ?_|exact Zt|(apply J.out;clear J ya))
   refine⟨x.body.length-(j+1),Ad2,j+1,rfl,Ad2,by simp,?_⟩;unfold vC zY at*
   rw[Aa3]at ab;rw[any_take_succ _ HG.out,ae,ab];rfl
 ·have ah:j=x.body.length:=Ad2;subst ah
  repeat' (first|refine Z1 ?_|(refine Z8 ?_;intro ya J)|(refine Z4 ?_;clear J ya)|(refine Z2 ?_ ?_<;>intro h aa<;>try exact Xp)|refine Z3 ?_|exact Zt|(apply J.out;clear J ya))
  unfold vC at ae;rw[Aa3]at ae;exact⟨_,rfl,by rw[Hz,ae],Xs⟩
def T8 (x:RItem)(t:List UInt8):Bool:=Ag t&&!Hz x t
def jH (x:RItem)(a:RAtom):Bool:=a.terms.any (T8 x)
def E3 (x:RItem):Bool:=!(Af x).any (jH x)
def zJ (x:RItem)(a:RAtom)(k:Nat):Prop:=(a.terms.take k).any (T8 x)=false
def zZ (x:RItem)(j:Nat):Prop:=((Af x).take j).any (jH x)=false
def RItem.fits (x:RItem):Prop:=x.body.length<=1000/\x.head.terms.length<=1000/\∀a∈x.body,a.terms.length<=1000
theorem O4 (x:RItem)(c:List AV)(hc:EItem x c)(hx:x.fits)(N:St):ACalls Tryz.prog 137 [ag c] N fun r N'=>r=sc (.bool (E3 x))/\Keep N N':=by
 have an:=hc;obtain⟨ih,id,b,hb,rfl⟩:=hc.cells;obtain⟨f1,f2,f3⟩:=hx;have f4:∀a∈x.body,a.terms.length<=100000:=fun a ha=>by have:=f3 a ha;omega
 have a0:(Af x).length<=1001:=by unfold Af;split<;>simp<;>omega
 have av:∀a∈Af x,a.terms.length<=1000:=by
  intro a ha;unfold Af at ha;rw[Ab2]at ha;rcases ha with ha|ha
  ·split at ha
   ·cases ha
   ·simp at ha;subst ha;exact f2
  ·exact f3 a ha
 refine Z9 41 [.tmp 2] Tryz.func137 ?_
 repeat' (first|refine Z1 ?_|(refine Z8 ?_;intro ya J)|(refine Z4 ?_;clear J ya)|(refine Z2 ?_ ?_<;>intro h ab<;>try exact Xp)|(refine Z5 ?_;refine Xi (Mz _ _ an Ad2 _) ?_;rintro _ _ ⟨ida,cs,rfl,hE,hK⟩;(have ko:=hK.obj _ (by rw[Aa];exact Nat.lt_succ_self _);rw[Am]at ko;have kn:=hK.nobj;rw[Aa]at kn))|refine Z3 ?_|exact Zt|(apply J.out;clear J ya))
 have az:=EL.length Ba hE;rename_i N1;have ap:Keep N N1:=((Keep.refl N).new _).trans hK
 refine Ab (fun m s N'=>∃j:Nat,m=(Af x).length-j/\j<=(Af x).length/\s 1=ptr N.nobj 0/\s 3=sl ida (Af x).length cs/\s 4=sc (.int .i64 j)/\Keep N N'/\N'.obj N.nobj=Bo x ih id b/\N.nobj<N'.nobj/\zZ x j) (Af x).length
  ⟨0,Ad2,Ad2,rfl,rfl,rfl,ap,ko,Ad2,by simp[zZ]⟩ ?_
 rintro m s N' ⟨j,rfl,hj,h1,h3,h4,ao,ak,am,ad⟩;clear hK ap ko kn;by_cases af:j<(Af x).length
 ·obtain⟨ia,r,hd⟩:=B8 hE (Aav af);have ac:=Aav af;have au:=av (Af x)[j] (Ab1 af);generalize (Af x)[j]=a at hd ac au;have HG:Ad8 ((Af x)[j]?=some a):=ac;clear ac
  repeat' (first|refine Z1 ?_|(refine Z8 ?_;intro ya J)|(refine Z4 ?_;clear J ya)|(refine Z2 ?_ ?_<;>intro h ab<;>try exact Xp)|refine Z3 ?_|exact Zt|(apply J.out;clear J ya))
  refine Ab (fun m2 s N'=>∃k:Nat,m2=a.terms.length-k/\k<=a.terms.length/\s 1=ptr N.nobj 0/\s 3=sl ida (Af x).length cs/\s 4=sc (.int .i64 j)/\s 5=sc (.int .i64 k)/\Keep N N'/\N'.obj N.nobj=Bo x ih id b/\N.nobj<N'.nobj/\zJ x a k) a.terms.length
   ⟨0,Ad2,Ad2,by simp[upd,h1],by simp[upd,h3],by simp[upd,h4],rfl,ao,ak,am,by simp[zJ]⟩ ?_
  rintro m2 s2 N2 ⟨k,rfl,hk,g1,g3,g4,g5,aw,ay,hnt,aa⟩;clear ao ak am;by_cases ae:k<a.terms.length
  ·have ax:=Bc ae
   repeat' (first|refine Z1 ?_|(refine Z8 ?_;intro ya J)|(refine Z4 ?_;clear J ya)|(refine Z2 ?_ ?_<;>intro h ab<;>try exact Xp)|(refine Z5 ?_;first|(refine Xi (Dt _ _) ?_;rintro _ _ ⟨rfl,rfl⟩)|(refine Xi (jC _ _ _ an Ad2 f4 _) ?_;rintro _ _ ⟨rfl,aj⟩;(have kb:=aj.obj _ hnt;have knb:=aj.nobj)))|refine Z3 ?_|exact Zt|(apply J.out;clear J ya))
   all_goals
    have ai:=Aav ae
    first
    |exact⟨_,rfl,by rw[E3,Dq _ HG.out (Dq (T8 x) ai (by simp[T8, *]))];rfl,Xs⟩
    |exact⟨a.terms.length-(k+1),Ad2,k+1,rfl,Ad2,by simp,aw.trans aj,Ad2,by unfold zJ at*;rw[any_take_succ _ ai,aa];simp[T8, *]⟩
    |exact⟨a.terms.length-(k+1),Ad2,k+1,rfl,Ad2,by simp,by unfold zJ at*;rw[any_take_succ _ ai,aa];simp[T8, *]⟩
  ·have ah:k=a.terms.length:=Ad2;subst ah
   repeat' (first|refine Z1 ?_|(refine Z8 ?_;intro ya J)|(refine Z4 ?_;clear J ya)|(refine Z2 ?_ ?_<;>intro h ab<;>try exact Xp)|refine Z3 ?_|exact Zt|(apply J.out;clear J ya))
   refine⟨(Af x).length-(j+1),Ad2,j+1,rfl,Ad2,by simp,?_⟩;unfold zZ zJ at*
   rw[Aa3]at aa;rw[any_take_succ _ HG.out,ad,jH,aa];rfl
 ·have ah:j=(Af x).length:=Ad2;subst ah
  repeat' (first|refine Z1 ?_|(refine Z8 ?_;intro ya J)|(refine Z4 ?_;clear J ya)|(refine Z2 ?_ ?_<;>intro h ab<;>try exact Xp)|refine Z3 ?_|exact Zt|(apply J.out;clear J ya))
  unfold zZ at ad;rw[Aa3]at ad
  first
  |exact⟨_,rfl,by rw[E3,ad];rfl,Xs⟩
  |exact⟨_,rfl,by rw[E3,ad];rfl⟩
def Ia:Scan:=⟨0,0,0,0,0,0,false⟩
def A2 (X:Scan)(c:UInt8):Scan×Bool:=
 if decide (5<=X.st)=true/\decide (X.st<=8)=true then Di X c.toNat else Ch X c.toNat
def Km:Scan->List UInt8->Nat->Scan×Option Nat
 |X,[],_=>(X,none)
 |X,c::r,i=>if (A2 X c).2=true then Km (A2 X c).1 r (i+1)else ((A2 X c).1,some i)
def Ej (s:List UInt8):Int:=
 match (Km Ia s 0).2 with
 |some i=>i
 |none=>if (Km Ia s 0).1.st !=0 then s.length else -1
def Scan.upto (X:Scan)(k:Nat):Prop:=X.items<=k/\X.letters<=k+1/\X.digits<=k+1/\X.terms<=k+1/\X.lits<=k+1/\0<=X.items/\0<=X.letters/\0<=X.digits/\0<=X.terms/\0<=X.lits
theorem U5 {X:Scan}{k:Nat}(h:X.upto k)(c:UInt8):(A2 X c).1.upto (k+1):=by
 obtain⟨h1,h2,h3,h4,h5,h6,h7,h8,h9,aa⟩:=h;unfold A2 Di Ch Scan.upto
 repeat' split
 all_goals (simp only[];(repeat' (first|constructor|(split<;>omega)|omega)))
theorem fT {X:Scan}{k:Nat}(h:X.upto k)(hk:k<=10000):X.small:=by
 obtain⟨h1,h2,h3,h4,h5,h6,h7,h8,h9,aa⟩:=h;exact⟨Ad2,Ad2,Ad2,Ad2,Ad2,h6,h7,h8,h9,aa⟩
def Zd (l:List UInt8)(k:Nat)(X:Scan):Prop:=Km Ia l 0=Km X (l.drop k) k
theorem Le {l:List UInt8}{k:Nat}{X:Scan}(h:k<l.length):Km X (l.drop k) k=if (A2 X l[k]).2=true then Km (A2 X l[k]).1 (l.drop (k+1)) (k+1)else ((A2 X l[k]).1,some k):=by
 rw[Abx h];rfl
theorem Ml (l:List UInt8)(hb:l.length<=1000)(N:St):ACalls Tryz.prog 134 [str l] N fun x N'=>x=sc (.int .i64 (Ej l))/\Keep N N':=by
 refine Z9 46 [.tmp 2] Tryz.func134 ?_
 repeat' (first|refine Z1 ?_|(refine Z8 ?_;intro ya J)|(refine Z4 ?_;clear J ya)|(refine Z2 ?_ ?_<;>intro h ac<;>try exact Xp)|refine Z3 ?_|exact Zt|(apply J.out;clear J ya))
 refine Ab (fun m s N'=>∃(k:Nat) (X:Scan),m=l.length-k/\k<=l.length/\s 0=str l/\s 3=ptr N.nobj 0/\s 4=sc (.int .i64 k)/\Keep N N'/\N'.obj N.nobj=Ih X/\N.nobj<N'.nobj/\X.upto k/\Zd l k X) l.length
  ⟨0,Ia,Ad2,Ad2,rfl,rfl,rfl,Xs,by simp[St.new];rfl,by simp[St.new],by simp[Scan.upto,Ia],rfl⟩ ?_
 rintro m s N' ⟨k,X,rfl,hk,h0,h3,h4,hK,ho,hn,hu,hp⟩;have ad:=fT hu Ad2;have ae:=ho;unfold Ih at ho;by_cases ab:k<l.length
 ·have ai:=Aav ab
  repeat' (first|refine Z1 ?_|(refine Z8 ?_;intro ya J)|(refine Z4 ?_;clear J ya)|(refine Z2 ?_ ?_<;>intro h ac<;>try exact Xp)|(refine Z5 ?_;first|(refine Xi (iJ _ X ad _ _ ae) ?_;rintro _ _ ⟨rfl,af,aa⟩;(have kin:=aa.nobj))|(refine Xi (gY _ X ad _ _ ae) ?_;rintro _ _ ⟨rfl,af,aa⟩;(have kin:=aa.nobj)))|refine Z3 ?_|exact Zt|(apply J.out;clear J ya))
  all_goals
   first
   |(have hs:A2 X l[k]=Di X l[k].toNat:=by simp[A2, *]
     first
     |exact⟨_,rfl,by rw[Ej,show Km Ia l 0=_ from hp,Le ab,hs,h];rfl,KeepX.keep hK aa (Aak _)⟩
     |exact⟨l.length-(k+1),Ad2,k+1,_,rfl,Ad2,by simp,KeepX.keep hK aa (Aak _),rfl,Ad2,by rw[<-hs];exact U5 hu _,by rw[Zd,show Km Ia l 0=_ from hp,Le ab,hs,h];rfl⟩)
   |(have hs:A2 X l[k]=Ch X l[k].toNat:=by simp only[A2, *,Abq,false_and,and_false,↓reduceIte]
     first
     |exact⟨_,rfl,by rw[Ej,show Km Ia l 0=_ from hp,Le ab,hs,h];rfl,KeepX.keep hK aa (Aak _)⟩
     |exact⟨l.length-(k+1),Ad2,k+1,_,rfl,Ad2,by simp,KeepX.keep hK aa (Aak _),rfl,Ad2,by rw[<-hs];exact U5 hu _,by rw[Zd,show Km Ia l 0=_ from hp,Le ab,hs,h];rfl⟩)
 ·have ah:k=l.length:=Ad2;subst ah;have hr:Km Ia l 0=(X,none):=by rw[show Km Ia l 0=_ from hp,Aby];rfl
  have HR:Ad8 _:=hr;clear hr
  repeat' (first|refine Z1 ?_|(refine Z8 ?_;intro ya J)|(refine Z4 ?_;clear J ya)|(refine Z2 ?_ ?_<;>intro h ac<;>try exact Xp)|refine Z3 ?_|exact Zt|(apply J.out;clear J ya))
  all_goals
   have hr:=HR.out
   first
   |exact⟨_,rfl,by simp[Ej,hr, *],hK⟩
   |exact⟨_,rfl,by simp[Ej,hr, *]⟩
   |exact⟨_,rfl,by simp[Ej,hr];simpa using h⟩
end Go.Proofs.YtmoeoppbmhfbpaaGreatDoorH
