import Derived.Test.YtmoeoppbmhfbpabGreatDoorMImpD
import Derived.Test.YtmoeoppbmhfbpabGreatDoorLPrtH
import Derived.Test.YtmoeoppbmhfbpabGreatDoorMUnfD
import Derived.Test.YtmoeoppbmhfbpabGreatDoorMNegC
import Derived.Test.YtmoeoppbmhfbpabGreatDoorMOptH
import Derived.Test.YtmoeoppbmhfbpabGreatDoorMEngR
set_option maxHeartbeats 64000000
set_option maxRecDepth 100000
set_option linter.all false
namespace Go.Proofs.YtmoeoppbmhfbpabGreatDoorL
open Go.Abs
def Acs (p:Tx):Tx:=p++[40,65,44,66,41,58,45]++p++[40,65,44,67,41,44]++p++[40,67,44,66,41,46]
def wC (p e:Tx):Tx:=p++[40,65,44,66,41,58,45]++e++[40,65,44,66,41,46]
def Nk (x:RItem):Bool:=Dg x==Acs x.head.pred
def Lq (x:RItem):Bool:=match x.body with
 |[a]=>!decide (a.pred=x.head.pred)&&(Dg x==wC x.head.pred a.pred)
 |_=>false
theorem mF {N:List Tx}{p:Tx}(h:p∈N):(N.map str).drop (N.idxOf p)=str p::(N.map str).drop (N.idxOf p+1):=by
 have aa:=Air h;have:=Ez aa;rwa[Aiq aa]at this
theorem We (N:List Tx)(l:List RItem)(cs:List AV)(idn idi:Nat)(hB:Bk N l cs)(x:RItem)(c:List AV)(hx:PI N x c)(hw:WI N x)(σ:St):ACalls Tryz.prog 180 [Bn N idn l idi cs,ag c] σ fun r σ'=>r=sc (.bool (Nk x))/\Keep σ σ':=by
 have hT:=fun σ=>Jq N l cs idn idi hB x c hx hw σ;have hN:=hB.nm;have hpl:=hw.short.1.1;obtain⟨hm,ih,id,b,hb,rfl⟩:=hx;have ab:=Air hm;have ac:=mF hm;have h1:({data:=#[40,65,44,66,41,58,45]}:ByteArray)=bs [40,65,44,66,41,58,45]:=rfl;have h2:({data:=#[40,65,44,67,41,44]}:ByteArray)=bs [40,65,44,67,41,44]:=rfl;have h3:({data:=#[40,67,44,66,41,46]}:ByteArray)=bs [40,67,44,66,41,46]:=rfl;have HA:Akc (∀t,t=Acs x.head.pred->(Dg x==t)=Nk x):=fun t e=>by rw[e];rfl
 generalize N.idxOf x.head.pred=ix at ab ac hT;generalize Dg x=W at hT HA;refine Z9 25 [.tmp 4] Tryz.func180 ?_
 repeat' (first|refine Z1 ?_|(refine Z8 ?_;intro yb ya)|(refine Z4 ?_;clear ya yb)|(refine Z5 ?_;refine Xi (hT _) ?_;rintro _ _ ⟨rfl,ad⟩;(have aa:=ad.nobj))|refine Z7 ?_|exact Zt|(apply ya.out;clear ya yb))
 exact⟨_,rfl,by rw[<-HA.out _ rfl];simp[Acs],Xs⟩
theorem yL {N:List Tx}{p q:Tx}(hp:p∈N)(hq:q∈N):(((N.idxOf p:Nat):Int)==((N.idxOf q:Nat):Int))=decide (p=q):=by
 by_cases h:p=q
 ·subst h;simp
 ·have:N.idxOf p≠N.idxOf q:=fun e=>h (by
   have h1:=Aiq (Air hp);have h2:=Aiq (Air hq)
   rw[<-h1,<-h2];congr 1)
  simp[h];omega
theorem iQ (N:List Tx)(l:List RItem)(cs:List AV)(idn idi:Nat)(hB:Bk N l cs)(x:RItem)(c:List AV)(hx:PI N x c)(hw:WI N x)(σ:St):ACalls Tryz.prog 213 [Bn N idn l idi cs,ag c] σ fun r σ'=>r=sc (.bool (Lq x))/\Keep σ σ':=by
 have hT:=fun σ=>Jq N l cs idn idi hB x c hx hw σ;have hN:=hB.nm;have hpl:=hw.short.1.1;have ad:=hw.short.2;have au:=hw.body;obtain⟨hm,ih,id,b,hb,rfl⟩:=hx;have af:=Air hm;have ah:=mF hm;have an:=EL.length Ds hb;have h1:({data:=#[40,65,44,66,41,58,45]}:ByteArray)=bs [40,65,44,66,41,58,45]:=rfl;have h2:({data:=#[40,65,44,66,41,46]}:ByteArray)=bs [40,65,44,66,41,46]:=rfl;by_cases aa:x.body.length=1
 ·obtain⟨a,ac⟩:=List.length_eq_one_iff.1 aa;have ab:x.body[0]?=some a:=by rw[ac];rfl
  obtain⟨ae,ia,ra,ai⟩:=Ml hb ab;have av:=(ad a (by rw[ac];simp)).1;have ak:=Air ae;have am:=mF ae;have hq:=yL ae hm;have ao:((x.body.length:Int) !=1)=false:=by rw[aa];rfl
  simp only[Ahl,List.drop_zero]at ai;subst ai;have HS:Akc (Lq x=(!decide (a.pred=x.head.pred)&&(Dg x==wC x.head.pred a.pred))):=by rw[Akc,Lq,ac]
  have aw:0<x.body.length:=Aj6;generalize N.idxOf x.head.pred=ix at af ah hT hq;generalize N.idxOf a.pred=jx at ak am hq hT an;generalize Dg x=W at hT HS;generalize x.body.length=n at*
  clear aa ab ac ad hb;refine Z9 49 [.tmp 4] Tryz.func213 ?_
  repeat' (first|refine Z1 ?_|(refine Z8 ?_;intro yb ya)|(refine Z4 ?_;clear ya yb)|refine Z7 ?_|exact Zt|(apply ya.out;clear ya yb))
  refine Bt (Q:=fun e s' σ''=>e= .normal/\s' 22=sc (.bool (decide (a.pred=x.head.pred)))/\s' 2=ptr σ.nobj 0/\s' 3=ptr (σ.nobj+1) 0/\σ''=(σ.new [sl idn N.length (N.map str),sl idi l.length cs]).new [sc (.bool x.out),sc (.int .i64 ix),sl ih x.head.terms.length (Au x.head.terms),sl id n (sc (.bool a.nt)::sc (.int .i64 jx)::sl ia a.terms.length (Au a.terms)::ra)]) ?_ ?_
  ·refine A1 Ai (fun _=>True) [] [0,1,2,3,4,5,6,7,8,9,10,11,12,13,14,15] 0 #[true,true,true,true,true,true,true,true,true,true,true,true,true,true,true,true] Aj9 (fun _ _ _ h=>by cases h.1) ?_;intro yb ya;refine Z7 ?_;refine ya.out _ ?_;clear ya yb;exact A2 Aj9 ⟨rfl,Aj7,Aj7,Aj7,rfl⟩
  rintro e s' σ'' ⟨rfl,g22,g2,g3,rfl⟩;cases hp:decide (a.pred=x.head.pred)with
  |true=>
   have HF:Akc (Lq x=false):=by rw[Akc,HS.out,hp];rfl
   rw[hp]at g22;clear HS hp;refine F3 g22 ?_
   repeat' (first|refine Z1 ?_|(refine Z8 ?_;intro yb ya)|(refine Z4 ?_;clear ya yb)|refine Z7 ?_|exact Zt|(apply ya.out;clear ya yb))
   exact⟨_,rfl,by rw[HF.out],Xs⟩
  |false=>
   have HF:Akc (∀t,t=wC x.head.pred a.pred->(W==t)=Lq x):=fun t e=>by rw[e,HS.out,hp];rfl
   rw[hp]at g22;clear HS hp hq;refine E3 g22 ?_
   repeat' (first|refine Z1 ?_|(refine Z8 ?_;intro yb ya)|(refine Z4 ?_;clear ya yb)|refine Z7 ?_|exact Zt|(apply ya.out;clear ya yb))
   refine Bt (Q:=fun e s' σ''=>e= .normal/\s' 5=str x.head.pred/\s' 6=str a.pred/\s' 2=ptr σ.nobj 0/\s' 3=ptr (σ.nobj+1) 0/\σ''=(σ.new [sl idn N.length (N.map str),sl idi l.length cs]).new [sc (.bool x.out),sc (.int .i64 ix),sl ih x.head.terms.length (Au x.head.terms),sl id n (sc (.bool a.nt)::sc (.int .i64 jx)::sl ia a.terms.length (Au a.terms)::ra)]) ?_ ?_
   ·refine A1 Ai (fun _=>True) [] [0,1,2,3,4,5,6,7,8,9,10] 0 #[true,true,true,true,true,true,true,true,true,true,true] Aj9 (fun _ _ _ h=>by cases h.1) ?_;intro yb ya;refine Z7 ?_;refine ya.out _ ?_;clear ya yb;exact A2 Aj9 ⟨rfl,Aj7,Aj7,Aj7,Aj7,rfl⟩
   rintro e s2 σ2 ⟨rfl,k5,k6,k2,k3,rfl⟩
   repeat' (first|refine Z1 ?_|(refine Z8 ?_;intro yb ya)|(refine Z4 ?_;clear ya yb)|(refine Z5 ?_;refine Xi (hT _) ?_;rintro _ _ ⟨rfl,ap⟩;(have aj:=ap.nobj))|refine Z7 ?_|exact Zt|(apply ya.out;clear ya yb))
   exact⟨_,rfl,by rw[<-HF.out _ rfl];simp[wC],Xs⟩
 ·have ao:((x.body.length:Int) !=1)=true:=by simp;omega
  have HS:Akc (Lq x=false):=by
   unfold Lq Akc;split
   ·rename_i a e;rw[e]at aa;exact absurd rfl aa
   ·rfl
  generalize N.idxOf x.head.pred=ix at af ah hT;generalize x.body.length=n at*
  clear aa ad hb;refine Z9 49 [.tmp 4] Tryz.func213 ?_
  repeat' (first|refine Z1 ?_|(refine Z8 ?_;intro yb ya)|(refine Z4 ?_;clear ya yb)|refine Z7 ?_|exact Zt|(apply ya.out;clear ya yb))
  refine Bt (Q:=fun e s' σ''=>e= .normal/\s' 22=sc (.bool true)/\s' 2=ptr σ.nobj 0/\s' 3=ptr (σ.nobj+1) 0/\σ''=(σ.new [sl idn N.length (N.map str),sl idi l.length cs]).new [sc (.bool x.out),sc (.int .i64 ix),sl ih x.head.terms.length (Au x.head.terms),sl id n b]) ?_ ?_
  ·refine A1 Ai (fun _=>True) [] [0,1,2,3,4,5,6,7,8,9,10,11,12,13,14,15] 0 #[true,true,true,true,true,true,true,true,true,true,true,true,true,true,true,true] Aj9 (fun _ _ _ h=>by cases h.1) ?_;intro yb ya;refine Z7 ?_;refine ya.out _ ?_;clear ya yb;exact A2 Aj9 ⟨rfl,Aj7,Aj7,Aj7,rfl⟩
  rintro e s' σ'' ⟨rfl,g22,g2,g3,rfl⟩;refine F3 g22 ?_
  repeat' (first|refine Z1 ?_|(refine Z8 ?_;intro yb ya)|(refine Z4 ?_;clear ya yb)|refine Z7 ?_|exact Zt|(apply ya.out;clear ya yb))
  exact⟨_,rfl,by rw[HS.out],Xs⟩
def Ob (n:Nat)(q:Tx)(p:RItem×Nat):Bool:=!decide (p.2=n)&&Lg q p.1
def Ks (l:List RItem)(n:Nat)(q:Tx):List RItem:=(l.zipIdx.filter (Ob n q)).map (·.1)
theorem sI {l:List RItem}{n:Nat}{q:Tx}{i:Nat}{y:RItem}(h:l[i]?=some y):Ks (l.take (i+1)) n q=Ks (l.take i) n q++if Ob n q (y,i)=true then [y]else []:=by
 have hi:=(Agy.1 h).1;unfold Ks;rw[Ahd,h,Ais,List.zipIdx_append,Ajk,Ahf,Ahp,Ahu Aj6];congr 1;rw[show ([y]:List RItem).zipIdx (0+i)=[(y,i)]by simp,Ai5];split<;>rfl
theorem xM (l:List RItem)(n:Nat)(q:Tx)(i:Nat):∃r,Ks l n q=Ks (l.take i) n q++r:=by
 refine⟨(((l.drop i).zipIdx (l.take i).length).filter (Ob n q)).map (·.1),?_⟩
 conv=>lhs;rw[<-Aje i l]
 unfold Ks;rw[List.zipIdx_append,Ajk,Ahf,Ahn]
def Fi (l:List RItem)(n:Nat)(q:Tx):Option Tx:=match Ks l n q with
 |[y]=>if Lq y=true then (match y.body with|[a]=>some a.pred|_=>none)else none
 |_=>none
def Lr (N:List Tx)(l:List RItem)(n:Nat)(q:Tx):Int:=match Fi l n q with
 |some e=>(N.idxOf e:Nat)
 |none=> -1
theorem wB {y:RItem}(h:Lq y=true):∃a,y.body=[a]:=by
 unfold Lq at h;split at h
 ·rename_i a e;exact⟨a,e⟩
 ·cases h
theorem R7 (N:List Tx)(ar:Tx->Nat)(l:List RItem)(cs:List AV)(idn idi n:Nat)(x:RItem)(hR:RtL N ar l)(hE:EL (PI N) l cs)(hx:l[n]?=some x)(σ:St):ACalls Tryz.prog 181 [Bn N idn l idi cs,sc (.int .i64 n)] σ fun r σ'=>r=sc (.int .i64 (Lr N l n x.head.pred))/\Keep σ σ':=by
 have bh:=EL.length Dd hE;have av:=hR.gl.len;have hN:=hR.gl.nm;have a9:=fun y c (hy:PI N y c) (hm:y∈l) σ=>iQ N l cs idn idi ((hR.gl.bkm hE).bk av) y c hy (hR.wi y hm) σ;have bf:n<l.length:=(Agy.1 hx).1;obtain⟨a4,ihx,idx,bx,rx,bi,bg⟩:=Em hE hx;have HB:Akc (∀y∈l,y.body.length<=5/\y.head.pred∈N/\∀a∈y.body,y.out=false->a.pred∈N):=fun y hy=>⟨hR.b5 y hy,(hR.gl.msr y hy).mem,fun a ha ho=>((hR.ru y hy ho).body a ha).mem⟩;clear hR;refine Z9 52 [.tmp 4] Tryz.func181 ?_
 repeat' (first|refine Z1 ?_|(refine Z8 ?_;intro yb ya)|(refine Z4 ?_;clear ya yb)|refine Z3 ?_|exact Zt|(apply ya.out;clear ya yb))
 refine Af (fun m s σ'=>∃(i:Nat) (v:Int),m=l.length-i/\i<=l.length/\s 1=ic n/\s 2=ptr σ.nobj 0/\s 5=ic v/\s 9=sl idi l.length cs/\s 10=ic l.length/\s 11=ic i/\Keep σ σ'/\σ.nobj<σ'.nobj/\σ'.obj σ.nobj=[sl idn N.length (N.map str),sl idi l.length cs]/\Akc ((Ks (l.take i) n x.head.pred=[]/\v= -1)\/∃y a,Ks (l.take i) n x.head.pred=[y]/\Lq y=true/\y.body=[a]/\v=((N.idxOf a.pred:Nat):Int))) l.length
  ⟨0,-1,Aj6,Aj6,by simp[upd,initS],Aj8,Aj8,Aj8,Aj8,Aj8,Xs,Aka,Ao,.inl ⟨rfl,rfl⟩⟩ ?_
 rintro m s σ' ⟨i,v,rfl,hi,h1,h2,h5,h9,bb,ba,hK,be,a3,hA⟩;have bc:=hK.nobj;by_cases az:i<l.length
 ·have ae:=Agz az;have ap:=Ain az;obtain⟨a8,aw,a7⟩:=HB.out l[i] ap;obtain⟨ay,ih,idb,b,r,am,hd⟩:=Em hE ae;have ah:=fun σ=>a9 l[i] _ (PI.of (ih:=ih) (id:=idb) ay am) ap σ;have aa:=sI (n:=n) (q:=x.head.pred) ae;have ab:=xM l n x.head.pred (i+1);generalize l[i]=y at ae ap a8 aw a7 ay am hd ah aa ab;have a5:=qH aw a4;have bl:=EL.length Ds am;clear ae
  repeat' (first|refine Z1 ?_|(refine Z8 ?_;intro yb ya)|(refine Z4 ?_;clear ya yb)|(refine Z2 ?_ ?_<;>intro h af<;>try exact Xp)|refine Z3 ?_|exact Zt|(apply ya.out;clear ya yb))
  refine Bt (Q:=fun e s' σ''=>e= .normal/\s' 35=sc (.bool (!Ob n x.head.pred (y,i)))/\s' 1=ic n/\s' 2=ptr σ.nobj 0/\s' 5=ic v/\s' 7=ptr σ'.nobj 0/\s' 9=sl idi l.length cs/\s' 10=ic l.length/\s' 11=ic i/\σ''=(σ'.new [sc (.bool false),ic 0,nilS,nilS]).put σ'.nobj [sc (.bool y.out),sc (.int .i64 (N.idxOf y.head.pred:Nat)),sl ih y.head.terms.length (Au y.head.terms),sl idb y.body.length b]) ?_ ?_
  ·have ax:((σ'.new [sc (.bool false),ic 0,nilS,nilS]).put σ'.nobj [sc (.bool y.out),sc (.int .i64 (N.idxOf y.head.pred:Nat)),sl ih y.head.terms.length (Au y.head.terms),sl idb y.body.length b]).obj σ.nobj=[sl idn N.length (N.map str),sl idi l.length cs]:=by rw[Ah Aj6,Ag Aj6,a3]
   by_cases ai:i=n
   ·have ak:Akc (Ob n x.head.pred (y,i)=false):=by simp[Akc,Ob,ai]
    have a6:((i:Int)==(n:Int))=true:=by simp[ai]
    clear ai aa hA;refine A1 Ai (fun _=>True) [] [0,1,2,3,4,5,6,7,8,9,10,11,12,13,14,15,16,17,18,19] 0 #[true,true,true,true,true,true,true,true,true,true,true,true,true,true,true,true,true,true,true,true] Aj9 (fun _ _ _ h=>by cases h.1) ?_;intro yb ya;refine Z3 ?_;refine ya.out _ ?_;clear ya yb;exact A2 Aj9 ⟨rfl,by rw[ak.out];simp[upd, *],Aj7,Aj7,Aj7,Aj7,Aj7,Aj7,Aj7,rfl⟩
   ·have a6:((i:Int)==(n:Int))=false:=by simp;omega
    cases ac:y.out with
    |true=>
     have ak:Akc (Ob n x.head.pred (y,i)=false):=by simp[Akc,Ob,Lg,ac]
     rw[ac]at ax;clear ai aa hA ac;refine A1 Ai (fun _=>True) [] [0,1,2,3,4,5,6,7,8,9,10,11,12,13,14,15,16,17,18,19] 0 #[true,true,true,true,true,true,true,true,true,true,true,true,true,true,true,true,true,true,true,true] Aj9 (fun _ _ _ h=>by cases h.1) ?_;intro yb ya;refine Z3 ?_;refine ya.out _ ?_;clear ya yb;exact A2 Aj9 ⟨rfl,by rw[ak.out];simp[upd, *],Aj7,Aj7,Aj7,Aj7,Aj7,Aj7,Aj7,rfl⟩
    |false=>
     have ak:Akc ((!Ob n x.head.pred (y,i))=!decide (y.head.pred=x.head.pred)):=by simp[Akc,Ob,Lg,ac,ai]
     rw[ac]at ax;clear ai aa hA ac;refine A1 Ai (fun _=>True) [] [0,1,2,3,4,5,6,7,8,9,10,11,12,13,14,15,16,17,18,19] 0 #[true,true,true,true,true,true,true,true,true,true,true,true,true,true,true,true,true,true,true,true] Aj9 (fun _ _ _ h=>by cases h.1) ?_;intro yb ya;refine Z3 ?_;refine ya.out _ ?_;clear ya yb;exact A2 Aj9 ⟨rfl,by rw[ak.out];simp[upd, *],Aj7,Aj7,Aj7,Aj7,Aj7,Aj7,Aj7,rfl⟩
  rintro e s' σ'' ⟨rfl,g35,g1,g2,g5,g7,g9,g10,g11,rfl⟩;clear h1 h2 h5 h9 bb ba a5;cases ad:Ob n x.head.pred (y,i)with
  |false=>
   rw[ad]at g35 aa;have HA:Akc ((Ks (l.take (i+1)) n x.head.pred=[]/\v= -1)\/∃y a,Ks (l.take (i+1)) n x.head.pred=[y]/\Lq y=true/\y.body=[a]/\v=((N.idxOf a.pred:Nat):Int)):=by
    rw[Akc,aa];simpa using hA.out
   clear aa ab hA ad ah;refine F3 g35 ?_
   repeat' (first|refine Z1 ?_|(refine Z8 ?_;intro yb ya)|(refine Z4 ?_;clear ya yb)|refine Z3 ?_|exact Zt|(apply ya.out;clear ya yb))
   refine⟨l.length-(i+1),Aj6,i+1,v,?_⟩
   ((repeat' refine Zi ?_ ?_)<;>first|exact Xq|exact HA|exact Xs)
  |true=>
   rw[ad]at g35 aa;simp only[if_true]at aa;have ac:y.out=false:=by
    unfold Ob Lg at ad;simp only[Ag3,Ajo]at ad;exact ad.2.1
   refine E3 g35 ?_;by_cases hv:v= -1
   ·have au:Ks (l.take i) n x.head.pred=[]:=by
     rcases hA.out with⟨e,-⟩|⟨y,a,-,-,-,e⟩
     ·exact e
     ·omega
    rw[au,Ah6]at aa;subst hv;cases hs:Lq y with
    |false=>
     have HF:Akc (Lr N l n x.head.pred= -1):=by
      obtain⟨r,e⟩:=ab;rw[aa]at e;unfold Lr Fi Akc;rw[e];cases r with
      |nil=>simp[hs]
      |cons a r=>rfl
     rw[hs,ac]at ah;clear aa ab hA ad hs au
     repeat' (first|refine Z1 ?_|(refine Z8 ?_;intro yb ya)|(refine Z4 ?_;clear ya yb)|(refine Z2 ?_ ?_<;>intro h af<;>try exact Xp)|(refine Z5 ?_;refine Xi (ah _) ?_;rintro _ _ ⟨rfl,an⟩;(have aj:=an.nobj))|refine Z3 ?_|exact Zt|(apply ya.out;clear ya yb))
     exact⟨_,rfl,by rw[HF.out],Xs⟩
    |true=>
     obtain⟨a,ha⟩:=wB hs;have HA:Akc ((Ks (l.take (i+1)) n x.head.pred=[]/\((N.idxOf a.pred:Nat):Int)= -1)\/∃y b,Ks (l.take (i+1)) n x.head.pred=[y]/\Lq y=true/\y.body=[b]/\((N.idxOf a.pred:Nat):Int)=((N.idxOf b.pred:Nat):Int)):=.inr ⟨y,a,aa,hs,ha,rfl⟩;obtain⟨bm,ia,ra,a0⟩:=Ml am (show y.body[0]?=some a by rw[ha];rfl);simp only[Ahl,List.drop_zero]at a0;have bn:0<y.body.length:=by rw[ha];simp
     rw[hs]at ah;rw[ac]at ah;subst a0;clear aa ab hA ad hs au ha am
     repeat' (first|refine Z1 ?_|(refine Z8 ?_;intro yb ya)|(refine Z4 ?_;clear ya yb)|(refine Z2 ?_ ?_<;>intro h af<;>try exact Xp)|(refine Z5 ?_;refine Xi (ah _) ?_;rintro _ _ ⟨rfl,an⟩;(have aj:=an.nobj;have ao:=an.obj;simp only[Ab,Aa]at aj ao))|refine Z3 ?_|exact Zt|(apply ya.out;clear ya yb))
     refine⟨l.length-(i+1),Aj6,i+1,((N.idxOf a.pred:Nat):Int),?_⟩
     ((repeat' refine Zi ?_ ?_)<;>first|exact Xq|exact HA|exact Xs)
   ·have bd:(v != -1)=true:=by simpa using hv
    have HF:Akc (Lr N l n x.head.pred= -1):=by
     rcases hA.out with⟨-,e⟩|⟨z,a,e,-,-,-⟩
     ·exact absurd e hv
     ·obtain⟨r,e2⟩:=ab;rw[aa,e]at e2;unfold Lr Fi Akc;rw[e2];rfl
    clear aa ab hA ad hv ah
    repeat' (first|refine Z1 ?_|(refine Z8 ?_;intro yb ya)|(refine Z4 ?_;clear ya yb)|(refine Z2 ?_ ?_<;>intro h af<;>try exact Xp)|refine Z3 ?_|exact Zt|(apply ya.out;clear ya yb))
    exact⟨_,rfl,by rw[HF.out],Xs⟩
 ·have hil:i=l.length:=Aj6;subst hil;have HF:Akc (Lr N l n x.head.pred=v):=by
   have:=hA.out;rw[Ag7]at this;unfold Lr Fi Akc;rcases this with⟨e,rfl⟩|⟨y,a,e,e2,e3,rfl⟩
   ·rw[e]
   ·rw[e];simp only[e2,if_true,e3]
  clear hA
  repeat' (first|refine Z1 ?_|(refine Z8 ?_;intro yb ya)|(refine Z4 ?_;clear ya yb)|(refine Z2 ?_ ?_<;>intro h af<;>try exact Xp)|refine Z3 ?_|exact Zt|(apply ya.out;clear ya yb))
  first|exact⟨_,rfl,by rw[HF.out],hK⟩|exact⟨_,rfl,by rw[HF.out]⟩
theorem PS.down {lo lo' p:Nat}{σ:St}{x:AV}{n:Nat}{pc:List AV}(h:PS lo σ x n pc)(h1:lo'<=lo)(hp:p<lo)(c:List AV):PS lo' (σ.put p c) x n pc:=by
 rcases h.put hp c with h|⟨o,cap,e1,e2,e3,e4,e5,e6,e7⟩
 ·exact .inl h
 ·exact .inr ⟨o,cap,e1,e2,e3,e4,e5,Aj6,e7⟩
theorem sK (r:Dx)(c:List AV)(hc:Re false r c)(hr:R52 r)(σ:St):
  ACalls Tryz.prog 93 [ag c] σ fun x σ'=>(∃ih X xs,x=ag [sc (.bool false),ic (Eo r).head.p,sl ih (Eo r).head.ts.length (Ac (Eo r).head.ts),X]/\PS σ.nobj σ' X (Eo r).body.length xs/\EL Qf (Eo r).body xs)/\Keep σ σ':=by
 have az:=fun σ=>K9 r c hc hr σ;have a5:=Ya hr;have bg:=hr.bl;obtain⟨ih,id,b,rfl,hb⟩:=hc;have bf:=EL.length Gs hb;unfold Eo;generalize Ep r=lo at az a5;have a0:=fun ido σ=>M5 lo ido r.head.p ih r.head.ts Aj6 (by have:=hr.h3;omega) σ;have a3:=fun ido (a:Lit) ia (ha:a∈r.body) σ=>M5 lo ido a.a.p ia a.a.ts Aj6 (by have:=hr.b3 a ha;omega) σ;refine Z9 39 [.cell 2 125] Tryz.func93 ?_
 repeat' (first|refine Z1 ?_|(refine Z8 ?_;intro yb ya)|(refine Z4 ?_;clear ya yb)|(refine Z5 ?_;refine Xi (az _) ?_;rintro _ _ ⟨⟨ido,rfl⟩,av⟩;(have ad:=av.obj;have ah:=av.nobj;simp only[Aa]at ah))|refine Z3 ?_|exact Zt|(apply ya.out;clear ya yb))
 rename_i σ1;have ak:σ1.obj σ.nobj=[sc (.bool false),ic r.head.p,sl ih r.head.ts.length (Ac r.head.ts),sl id r.body.length b]:=by
  rw[ad _ Aka,Ag Aka,Ao]
 have aj:σ1.obj (σ.nobj+1)=[sc (.bool false),ic 0,nilS,nilS]:=by
  rw[ad _ Aka,Bs (by rw[Aa];omega) (by rw[Aa];omega)]
 have an:Keep σ σ1:=Xs;clear ad av;refine Bt (Q:=fun e s σ'=>e= .normal/\∃o i2:Nat,s 1=ptr σ.nobj 0/\s 2=ptr (σ.nobj+1) 0/\s 3=sl ido lo.length (Al lo)/\s 4=ptr o 0/\σ.nobj+1<o/\o<σ'.nobj/\σ'.obj σ.nobj=[sc (.bool false),ic r.head.p,sl ih r.head.ts.length (Ac r.head.ts),sl id r.body.length b]/\σ'.obj (σ.nobj+1)=[sc (.bool false),ic 0,nilS,nilS]/\σ'.obj o=[sc (.bool false),ic r.head.p,sl i2 r.head.ts.length (Ac (r.head.ts.map (Fj lo))),nilS]/\Keep σ σ') ?_ ?_
 ·refine A1 Ai (fun _=>True) [8] [0,1,2,3,4] 4 #[true,true,true,true,true,false,false,false,false] Aj9 (fun _ _ _ h=>by cases h.1) ?_;intro yb ya;refine Z3 ?_;refine ya.out _ ?_;clear ya yb;have hR2:=fun σ=>a0 ido σ;refine Ef (rs:=[5,7]) Aj9 (by simp) ?_;intro i hi;simp only[Ah2,Ail,Aj5]at hi;rcases hi with rfl|rfl
  ·refine Aq ?_;intro yb ya;refine Z3 ?_;refine ACalls.mono (hR2 _) ?_;rintro _ σ2 ⟨⟨i2,rfl⟩,ab⟩;have aa:=ab.obj;have af:=ab.nobj;refine Z3 ?_;refine ya.out _ _ ⟨Ap ab,?_⟩;clear ya yb;refine Ef (rs:=[6,7]) Aj9 (by simp) ?_;intro i hi;simp only[Ah2,Ail,Aj5]at hi;rcases hi with rfl|rfl
   ·refine Aq ?_;intro yb ya;refine Z3 ?_;refine ya.out _ _ ⟨Ap ab,?_⟩;clear ya yb;refine Am (i:=7) Aj9 ?_;refine Aq ?_;intro yb ya;refine Z3 ?_;refine ya.out _ _ ⟨Ap (ab.new _),?_⟩;clear ya yb;refine Am (i:=8) Aj9 ?_;refine Aq ?_;intro yb ya;refine Z3 ?_;refine ya.out _ _ ⟨Br rfl,?_⟩;clear ya yb;refine A2 Aj9 ⟨rfl,σ2.nobj,i2,Aj8,Aj8,Aj8,Aj8,Aj6,Akb,?_,?_,Aj,?_⟩
    ·rw[Ah Aj6,Ag Aj6,aa _ Aj6,ak]
    ·rw[Ah Aj6,Ag Aj6,aa _ Aj6,aj]
    ·exact ((an.trans ab).new _).put Aj6 _
   ·refine Aq ?_;intro yb ya;refine Z3 ?_;refine ya.out _ _ ⟨Ap (ab.new _),?_⟩;clear ya yb;refine Am (i:=6) Aj9 ?_;refine Aq ?_;intro yb ya;refine Z3 ?_;refine ya.out _ _ ⟨Ap (ab.new _),?_⟩;clear ya yb;refine Am (i:=8) Aj9 ?_;refine Aq ?_;intro yb ya;refine Z3 ?_;refine ya.out _ _ ⟨Br rfl,?_⟩;clear ya yb;refine A2 Aj9 ⟨rfl,σ2.nobj,i2,Aj8,Aj8,Aj8,Aj8,Aj6,Akb,?_,?_,Aj,?_⟩
    ·rw[Ah Aj6,Ag Aj6,aa _ Aj6,ak]
    ·rw[Ah Aj6,Ag Aj6,aa _ Aj6,aj]
    ·exact ((an.trans ab).new _).put Aj6 _
  ·refine Aq ?_;intro yb ya;refine Z3 ?_;refine ya.out _ _ ⟨Ap ((Keep.refl _).new _),?_⟩;clear ya yb;refine Am (i:=5) Aj9 ?_;refine Aq ?_;intro yb ya;refine Z3 ?_;refine ACalls.mono (hR2 _) ?_;rintro _ σ2 ⟨⟨i2,rfl⟩,ab⟩;have aa:=ab.obj;have af:=ab.nobj;simp only[Aa]at af;refine Z3 ?_;refine ya.out _ _ ⟨Ap (((Keep.refl _).new _).trans ab),?_⟩;clear ya yb;refine Am (i:=6) Aj9 ?_;refine Aq ?_;intro yb ya;refine Z3 ?_;refine ya.out _ _ ⟨Ap (((Keep.refl _).new _).trans ab),?_⟩;clear ya yb;refine Am (i:=8) Aj9 ?_;refine Aq ?_;intro yb ya;refine Z3 ?_;refine ya.out _ _ ⟨Br rfl,?_⟩;clear ya yb;refine A2 Aj9 ⟨rfl,σ1.nobj,i2,Aj8,Aj8,Aj8,Aj8,Aj6,Akb,?_,?_,Aj,?_⟩
   ·rw[Ah Aj6,aa _ (by rw[Aa];omega),Ag Aj6,ak]
   ·rw[Ah Aj6,aa _ (by rw[Aa];omega),Ag Aj6,aj]
   ·exact ((an.new _).trans ab).put Aj6 _
 ·rintro e s σ2 ⟨rfl,o,i2,h1,h2,h3,h4,be,bc,a4,ao,ob,hK⟩;have aw:=hK.nobj;clear an ak aj ah a0
  repeat' (first|refine Z1 ?_|(refine Z8 ?_;intro yb ya)|(refine Z4 ?_;clear ya yb)|refine Z3 ?_|exact Zt|(apply ya.out;clear ya yb))
  refine Af (fun m s σ'=>∃(k:Nat) (X:AV) (xs:List AV),m=r.body.length-k/\k<=r.body.length/\s 2=ptr (σ.nobj+1) 0/\s 3=sl ido lo.length (Al lo)/\s 4=ptr o 0/\s 18=sl id r.body.length b/\s 19=ic r.body.length/\s 20=ic k/\Keep σ σ'/\σ2.nobj<=σ'.nobj/\σ'.obj (σ.nobj+1)=[sc (.bool false),ic 0,nilS,nilS]/\σ'.obj o=[sc (.bool false),ic r.head.p,sl i2 r.head.ts.length (Ac (r.head.ts.map (Fj lo))),X]/\PS σ2.nobj σ' X k xs/\Akc (EL Qf ((r.body.take k).map (reL lo)) xs)) r.body.length
   ⟨0,nilS,[],Aj6,Aj6,by simp[upd,h2],by simp[upd,h3],by simp[upd,h4],Aj8,Aj8,rfl,hK,Agn _,ao,ob,.inl ⟨rfl,rfl,rfl⟩,rfl⟩ ?_
  clear h1 h2 h3 h4 a4 ao ob hK aw;rintro m s σ' ⟨k,X,xs,rfl,hk,h2,h3,h4,bm,bi,bh,hK,bd,ao,ob,hX,hE⟩;have aw:=hK.nobj;have a8:=hX.flat;by_cases ax:k<r.body.length
  ·have ac:=Agz ax;obtain⟨ia,rr,hd⟩:=Hl hb ac;have hR:=fun σ=>a3 ido r.body[k] ia (Ain ax) σ;generalize r.body[k]=a at hd ac hR;have HX:Akc (∀i4,EL Qf ((r.body.take (k+1)).map (reL lo)) (xs++[sc (.bool a.neg),ic a.a.p,sl i4 a.a.ts.length (Ac (a.a.ts.map (Fj lo)))])):=fun i4=>by
    rw[Ahd,ac,Ais,Ahf];exact EL.append hE.out (EL.single ⟨i4,by simp[reL,fS]⟩)
   clear ac hE a3
   repeat' (first|refine Z1 ?_|(refine Z8 ?_;intro yb ya)|(refine Z4 ?_;clear ya yb)|(refine Z2 ?_ ?_<;>intro h au<;>try exact Xp)|(refine Z5 ?_;refine Xi (hR _) ?_;rintro _ _ ⟨⟨i4,rfl⟩,am⟩;(have ae:=am.obj;have ap:=am.nobj;simp only[Aa,Ab]at ap ae))|refine Z3 ?_|exact Zt)
   rename_i σ4;have ba:=((hK.new [sc (.bool false),ic 0,nilS]).put hK.nobj _).trans am;refine qS (lo:=σ2.nobj) (σ0:=σ) (by first|exact Ek) (by rfl) (by rfl) (by rfl) Aj6 Aj6 (by simp only[Aw,Ab,Aa];omega) Aj6 (((ba.new _).put Aj6 _).lay 1) (hX.keep ((((((Keep.refl _).new _).put (Agn _) _).trans am).new _).put Aj6 _|>.lay 1)) ?_;intro X' σn ay a6 ai bb;simp only[Aw,Ab,Aa]at a6;have eob:∀p,p<σ2.nobj->σn.obj p=σ'.obj p:=fun p hp=>by rw[ai p hp,Gl,Ah Aj6,Ag Aj6,ae _ Aj6,Ah Aj6,Ag Aj6]
   obtain⟨og,cg,rfl,-⟩:=ay.gx Aj6;clear ai hX;refine Z3 ?_
   repeat' (first|refine Z1 ?_|(refine Z8 ?_;intro yb ya)|(refine Z4 ?_;clear ya yb)|refine Z3 ?_|exact Zt|(apply ya.out;clear ya yb))
   refine⟨r.body.length-(k+1),Aj6,k+1,gx og (k+1) cg,xs++[sc (.bool a.neg),ic a.a.p,sl i4 a.a.ts.length (Ac (a.a.ts.map (Fj lo)))],?_⟩
   ((repeat' refine Zi ?_ ?_)<;>first|exact Xq|exact (bb.put Aj6 _)|exact (ay.put Aj6 _)|exact (HX.out i4)|exact Xs)
  ·have a7:k=r.body.length:=Aj6;subst a7;rw[Ag7]at hE;have HP:Akc (PS σ.nobj ((σ'.put (σ.nobj+1) [sc (.bool false),ic r.head.p,sl i2 r.head.ts.length (Ac (r.head.ts.map (Fj lo))),X])) X r.body.length xs):=hX.down Aj6 Aj6 _;have a9:X=nilS\/∃oc cc,X=gx oc r.body.length cc:=by
    rcases hX with⟨h,-⟩|⟨oc,cc,h,-⟩
    ·exact .inl h
    ·exact .inr ⟨oc,cc,h⟩
   clear hX a8;rcases a9 with rfl|⟨oc,cc,rfl⟩
   all_goals
    repeat' (first|refine Z1 ?_|(refine Z8 ?_;intro yb ya)|(refine Z4 ?_;clear ya yb)|(refine Z2 ?_ ?_<;>intro h au<;>try exact Xp)|refine Z3 ?_|exact Zt|(apply ya.out;clear ya yb))
    exact⟨_,rfl,⟨i2,_,xs,by simp[fS];rfl,by simpa using HP.out,by simpa using hE.out⟩,hK.put Aj6 _⟩
theorem qG {α β:Type}[BEq α][LawfulBEq α][BEq β][LawfulBEq β]{f:α->β}{t:α}:∀{l:List α},(∀u∈l,f u=f t->u=t)->(l.map f).idxOf (f t)=l.idxOf t
 |[],_=>rfl
 |a::l,h=>by
  rw[Ahj,List.idxOf_cons,List.idxOf_cons];by_cases e:a=t
  ·subst e;simp
  ·have e2:f a≠f t:=fun e2=>e (h a (by simp) e2);rw[show (f a==f t)=false by simpa using e2,show (a==t)=false by simpa using e,qG fun u hu=>h u (by simp[hu])]
def e2 (t:Tx):Int:=(Ak t).2
theorem Adg {t u:Tx}(ht:UT t)(hu:UT u)(h1:Ad t=true)(h2:Ad u=true)(h:e2 t=e2 u):t=u:=tellU.inj t u ht hu (Prod.ext (by rw[Bo,Bo,h1,h2]) h)
theorem gS:∀{ts acc:List Tx},(∀t∈acc,UT t/\Ad t=true)->(∀t∈ts,UT t)->(ts.map Ak).foldl vF (acc.map e2)=(Hn acc ts).map e2
 |[],_,_,_=>rfl
 |t::ts,acc,ha,ht=>by
  have hu:=ht t (by simp);have e:vF (acc.map e2) (Ak t)=(F0 acc t).map e2:=by
   unfold vF F0;rw[Bo];by_cases hv:Ad t=true
   ·by_cases hm:t∈acc
    ·rw[if_neg fun h=>h.2 (Aib.2 ⟨t,hm,rfl⟩),if_neg fun h=>h.2 hm]
    ·rw[if_pos ⟨hv,fun h=>by
      obtain⟨u,ab,e⟩:=Aib.1 h
      exact hm (by rw[<-Adg (ha u ab).1 hu (ha u ab).2 hv e];exact ab)⟩,if_pos ⟨hv,hm⟩]
     simp[e2]
   ·rw[if_neg fun h=>hv h.1,if_neg fun h=>hv h.1]
  rw[Ahj,Ag6,e];show _=(Hn (F0 acc t) ts).map e2;refine gS (fun u aa=>?_) fun u aa=>ht u (by simp[aa]);unfold F0 at aa;split at aa
  ·rename_i hc;rcases Ah8.1 aa with h|h
   ·exact ha u h
   ·simp at h;subst h;exact⟨hu,hc.1⟩
  ·exact ha u aa
theorem xR {N:List Tx}{x:RItem}(ho:x.out=false)(hx:Ck x)(hu:∀a∈Ae x,∀t∈a.terms,UT t):Eo (A3 N x)=A3 N (ren x):=by
 have ab:Ae x=x.head::x.body:=by simp[Ae,ho]
 have ac:Ep (A3 N x)=(A4 x).map e2:=by
  have e:(G5 (A3 N x)).flatMap (·.ts)=((Ae x).flatMap (·.terms)).map Ak:=by
   rw[ab];simp[G5,A3,B9,Dp,List.flatMap_map,List.map_flatMap]
  unfold Ep Cb A4;rw[e];refine gS (acc:=[]) (fun t ht=>by cases ht) fun t ht=>?_;obtain⟨a,ha,aa⟩:=Ah7.1 ht;exact hu a ha t aa
 have hL:∀v∈A4 x,UT v/\Ad v=true:=fun v hv=>by
  obtain⟨h1,-⟩:=Mv ((Ae x).flatMap (·.terms)) [] (fun v hv=>by cases hv) Ai0;obtain⟨h2,h3⟩:=h1 v hv;rcases h3 with h3|h3
  ·cases h3
  ·obtain⟨a,ha,aa⟩:=Ah7.1 h3;exact⟨hu a ha v aa,h2⟩
 have key:∀a∈Ae x,fS (Ep (A3 N x)) (B9 N a)=B9 N (Cs (A4 x) a):=fun a ha=>by
  unfold fS B9 Cs;simp only[Ahg];congr 1;refine Aid fun t ht=>?_;have ad:=hu a ha t ht;show Fj (Ep (A3 N x)) (Ak t)=Ak (Gt (A4 x) t);rw[Aey ad.1 (fun hv=>Mu hx ha ht hv)];unfold Fj;rw[Bo];congr 1;by_cases hv:Ad t=true
  ·have hm:t∈A4 x:=Pp _ _ _ (.inr ⟨Ah7.2 ⟨a,ha,ht⟩,hv⟩);have af:(Ak t).2∈Ep (A3 N x):=by rw[ac];exact Aib.2 ⟨t,hm,rfl⟩
   have hi:(Ep (A3 N x)).idxOf (Ak t).2=(A4 x).idxOf t:=by
    rw[ac];exact qG fun u ae e=>Adg (hL u ae).1 ad (hL u ae).2 hv e
   rw[if_pos hv,if_pos hv,lX,if_pos af,Bw,if_pos hm,hi]
  ·rw[if_neg hv,if_neg hv]
 unfold Eo;have e1:fS (Ep (A3 N x)) (A3 N x).head=B9 N (Cs (A4 x) x.head):=key x.head (by rw[ab];simp);have e3:(A3 N x).body.map (reL (Ep (A3 N x)))=(x.body.map (Cs (A4 x))).map (Dp N):=by
  show (x.body.map (Dp N)).map _=_;rw[Ahg,Ahg];refine Aid fun a ha=>?_;show (⟨a.nt,fS (Ep (A3 N x)) (B9 N a)⟩:Lit)=⟨a.nt,B9 N (Cs (A4 x) a)⟩;rw[key a (by rw[ab];simp[ha])]
 rw[e1,e3];rfl
theorem Adh {y z:RItem}(hy:Ck y)(hz:Ck z)(h:Bc y++[46]=Bc z++[46]):y=z:=by
 have e:Bc y=Bc z:=List.append_cancel_right h;have h1:=(L4 hy).1;rw[e,(L4 hz).1]at h1;exact h1.symm
def Da (p q:Tx):RItem:=⟨false,⟨false,p,[[65],[66]]⟩,[⟨false,q,[[65],[67]]⟩,⟨false,p,[[67],[66]]⟩]⟩
def Uj (p e:Tx):RItem:=⟨false,⟨false,p,[[65],[66]]⟩,[⟨false,e,[[65],[66]]⟩]⟩
theorem Adf {b:UInt8}(h:Bl b.toNat=true):Nt [b]:=⟨by simp,fun c hc=>by simp at hc;subst hc;exact .inl h⟩
theorem uP {p:Tx}(h:Ke p){n:Bool}{b c:UInt8}(hb:Bl b.toNat=true)(hc:Bl c.toNat=true):D1 ⟨n,p,[[b],[c]]⟩:=⟨h,by simp,by simp,fun t ht=>by
 simp only[Ah2,Ail,Aj5]at ht;rcases ht with rfl|rfl
 ·exact Adf hb
 ·exact Adf hc⟩
theorem Af3 {p q:Tx}(hp:Ke p)(hq:Ke q):Ck (Da p q):=⟨hp,(fun e=>by cases e),fun _=>⟨uP hp rfl rfl,rfl,by simp[Da],fun a ha=>by
 simp only[Da,Ah2,Ail,Aj5]at ha;rcases ha with rfl|rfl
 ·exact uP hq rfl rfl
 ·exact uP hp rfl rfl⟩⟩
theorem Afp {p q:Tx}(hp:Ke p)(hq:Ke q):Ck (Uj p q):=⟨hp,(fun e=>by cases e),fun _=>⟨uP hp rfl rfl,rfl,by simp[Uj],fun a ha=>by
 simp only[Uj,Ah2,Ail,Aj5]at ha;subst ha
 exact uP hq rfl rfl⟩⟩
theorem P9 {N:List Tx}{x:RItem}(hw:Ck x)(hi:WI N x)(h:Nk x=true):ren x=Da x.head.pred x.head.pred:=by
 unfold Nk at h;rw[Aj4,Qg hw]at h;exact Adh (Mp hw hi) (Af3 hw.1 hw.1) (by rw[h];simp[Acs,Bc,Da,Dh,A6,Bj,Bz,B8])
theorem pP {N:List Tx}{x:RItem}{a:RAtom}(hw:Ck x)(hi:WI N x)(hb:x.body=[a])(h:Lq x=true):ren x=Uj x.head.pred a.pred:=by
 have ho:x.out=false:=by
  cases ho:x.out with
  |false=>rfl
  |true=>rw[(hw.2.1 ho).2.2]at hb;cases hb
 unfold Lq at h;rw[hb]at h;simp only[Ag3,Aj4]at h;rw[Qg hw]at h;exact Adh (Mp hw hi) (Afp hw.1 ((hw.2.2 ho).2.2.2 a (by rw[hb];simp)).1) (by rw[h.2];simp[wC,Bc,Uj,Dh,A6,Bj,Bz,B8])
theorem Ads {N:List Tx}{b:RAtom}(hN:b.pred∈N)(hu:∀t∈b.terms,UT t):Mh N b.nt (B9 N b)=b:=by
 obtain⟨n,p,ts⟩:=b;unfold Mh B9;have aa:=Air hN;simp only[Ajn,Agz aa,Aiq,Ajh,Ahg];congr 1
 conv=>rhs;rw[<-Aic ts]
 exact Aid fun t ht=>(hu t ht).dec.1
theorem cB {N:List Tx}{x:RItem}(ho:x.out=false)(hn:x.head.nt=false)(h:∀a∈Ae x,a.pred∈N/\∀t∈a.terms,UT t):Cx N (A3 N x)=x:=by
 obtain⟨o,hd,bd⟩:=x;have ho:o=false:=ho;subst ho;have aa:∀a,a=hd\/a∈bd->a∈Ae ⟨false,hd,bd⟩:=fun a ha=>by simpa[Ae]using ha
 have h1:=h hd (aa hd (.inl rfl));have e1:=Ads h1.1 h1.2;have hn:hd.nt=false:=hn;rw[hn]at e1;unfold Cx A3;simp only[e1,Ahg];congr 1
 conv=>rhs;rw[<-Aic bd]
 exact Aid fun a ha=>Ads (h a (aa a (.inr ha))).1 (h a (aa a (.inr ha))).2
theorem Tn {k:Nat}(h:k<26)(b:UInt8)(hb:b=Jp k):UT [b]:=by rw[hb];exact (kS h).1
theorem mK {p q:Tx}:∀a∈Ae (Da p q),a.terms.length=2/\(a.pred=p\/a.pred=q)/\∀t∈a.terms,UT t:=by
 have hA:=Tn (k:=0) (by decide) 65 rfl;have hB:=Tn (k:=1) (by decide) 66 rfl;have hC:=Tn (k:=2) (by decide) 67 rfl;intro a ha;simp only[Ae,Da,Ahv,if_false,List.singleton_append,Ah2,Ail,Aj5]at ha;rcases ha with rfl|rfl|rfl<;>simp[hA,hB,hC]
theorem yB {N:List Tx}{ar:Tx->Nat}{p q:Tx}(hp:p∈N)(hq:q∈N)(gp:QNm p)(gq:QNm q)(ap:ar p=2)(aq:ar q=2):RuO N ar (A3 N (Da p q))/\Cx N (A3 N (Da p q))=Da p q:=by
 have hm:∀a∈Ae (Da p q),a.pred∈N/\QNm a.pred/\ar a.pred=2:=fun a ha=>by
  rcases (mK a ha).2.1 with e|e<;>rw[e]
  ·exact⟨hp,gp,ap⟩
  ·exact⟨hq,gq,aq⟩
 have key:∀a∈Ae (Da p q),AtO N ar (B9 N a):=fun a ha=>by
  obtain⟨h1,h2,h3⟩:=mK a ha;obtain⟨g1,g2,g3⟩:=hm a ha
  exact⟨⟨a.pred,g1,rfl,g2,by simp[B9,h1,g3]⟩,by simp[B9,h1],by simp[B9,h1],fun t ht=>by
   obtain⟨u,hu,rfl⟩:=Aib.1 ht
   exact⟨u,h3 u hu,rfl⟩⟩
 refine⟨⟨key _ (Ar (.inl ⟨rfl,rfl⟩)),fun l hl=>?_⟩,cB rfl rfl fun a ha=>⟨(hm a ha).1,(mK a ha).2.2⟩⟩;obtain⟨a,ha,rfl⟩:=Aib.1 hl;exact key a (Ar (.inr ha))
theorem Il {N:List Tx}{ar:Tx->Nat}{l:List RItem}(hR:RtL N ar l){i:Nat}{x:RItem}(hx:l[i]?=some x)(ha:Nk x=true):x.out=false/\x.body.length=2/\x.head.pred∈N/\QNm x.head.pred/\ar x.head.pred=2:=by
 have hm:=Ag1 hx;have hr:=P9 (hR.wit x hm) (hR.wi x hm) ha;have ho:x.out=false:=congrArg RItem.out hr;have h1:x.body.length=2:=by have:=congrArg (fun y=>y.body.length) hr;simpa[ren,Da]using this
 have h2:x.head.terms.length=2:=by have:=congrArg (fun y=>y.head.terms.length) hr;simpa[ren,Da,Cs]using this
 have hI:=(hR.ru x hm ho).head;exact⟨ho,h1,hI.mem,⟨(hR.wit x hm).1,(hR.gl.msr x hm).hpl⟩,by rw[<-hI.len,h2]⟩
theorem Uk {N:List Tx}{ar:Tx->Nat}{l:List RItem}(hR:RtL N ar l){i:Nat}{p e:Tx}(h:Fi l i p=some e):e∈N/\QNm e/\ar e=2:=by
 unfold Fi at h;split at h
 case h_2=>cases h
 rename_i y ho;split at h
 case isFalse=>cases h
 rename_i hs;split at h
 case h_2=>cases h
 rename_i a hb;cases h;have ab:y∈Ks l i p:=by rw[ho];simp
 obtain⟨⟨z,j⟩,hz,rfl⟩:=Aib.1 ab;obtain⟨ae,aa⟩:=Ai7.1 hz;have hm:z∈l:=List.fst_mem_of_mem_zipIdx ae;have ad:z.out=false:=by
  unfold Ob Lg at aa;simp only[Ag3,Ajo]at aa;exact aa.2.1
 have ac:a∈z.body:=by rw[show z.body=[a]from hb];simp
 have hr:=pP (hR.wit z hm) (hR.wi z hm) hb hs;have h2:a.terms.length=2:=by
  have:=congrArg (fun y:RItem=>y.body.map fun b=>b.terms.length) hr;simpa[ren,Uj,Cs,show z.body=[a]from hb]using this
 have hI:=(hR.ru z hm ad).body a ac;exact⟨hI.mem,⟨((hR.wit z hm).2.2 ad).2.2.2 a ac|>.1,((hR.gl.msr z hm).at_ a (Ar (.inr ac))).2.1⟩,by rw[<-hI.len,h2]⟩
def W3 (N:List Tx)(l:List RItem)(i:Nat):Bool:=match l[i]? with
 |some x=>Nk x&&(match Fi l i x.head.pred with
  |some e=>Cy N l (Co i [Da x.head.pred e] l)
  |none=>false)
 |none=>false
def chL (N:List Tx)(l:List RItem)(idn:Nat)(x:AV)(b:Bool):Prop:=
 (b=false/\∀i,i<l.length->W3 N l i=false)\/(b=true/\∃i y e,l[i]?=some y/\Nk y=true/\Fi l i y.head.pred=some e/\W3 N l i=true/\(∀j,j<i->W3 N l j=false)/\∃id c',x=Bn N idn (Co i [Da y.head.pred e] l) id c'/\EL (PI N) (Co i [Da y.head.pred e] l) c')
theorem yC {N:List Tx}{ar:Tx->Nat}{l:List RItem}(hR:RtL N ar l){i:Nat}{x:RItem}{e:Tx}(hx:l[i]?=some x)(ha:Nk x=true)(he:Fi l i x.head.pred=some e):GdI N ar [Da x.head.pred e]:=fun y hy _=>by
 simp at hy;subst hy;obtain⟨-,-,h1,h2,h3⟩:=Il hR hx ha;obtain⟨g1,g2,g3⟩:=Uk hR he;obtain⟨k1,k2⟩:=yB h1 g1 h2 g2 h3 g3;exact⟨_,k2.symm,k1,by simp[A3,Da]⟩
theorem sX {N:List Tx}{ar:Tx->Nat}{l:List RItem}(hR:RtL N ar l){i:Nat}{x:RItem}{e:Tx}(hx:l[i]?=some x)(ha:Nk x=true)(he:Fi l i x.head.pred=some e){ih ib:Nat}{xs:List AV}(h:EL Qf (Eo (A3 N x)).body xs):PI N (Da x.head.pred e) [sc (.bool false),ic (Eo (A3 N x)).head.p,sl ih (Eo (A3 N x)).head.ts.length (Ac (Eo (A3 N x)).head.ts),sl ib 2 (xs.set 1 (ic (N.idxOf e:Nat)))]:=by
 have hm:=Ag1 hx;obtain⟨ho,-,h1,h2,h3⟩:=Il hR hx ha;obtain⟨g1,g2,g3⟩:=Uk hR he;rw[xR ho (hR.wit x hm) (fun a ha=>((hR.gl.msr x hm).at_ a ha).2.2),P9 (hR.wit x hm) (hR.wi x hm) ha]at h⊢;refine kF h1 (fun a ha=>?_) ?_
 ·simp only[Da,Ah2,Ail,Aj5]at ha;rcases ha with rfl|rfl
  ·exact g1
  ·exact h1
 ·obtain⟨c1,d1,⟨j1,rfl⟩,⟨c2,d2,⟨j2,rfl⟩,e2,rfl⟩,rfl⟩:=h;have e2:d2=[]:=e2;subst e2;exact⟨ih,ib,_,rfl,⟨_,_,⟨j1,rfl⟩,⟨_,_,⟨j2,rfl⟩,rfl,rfl⟩,rfl⟩⟩
theorem R3 (N:List Tx)(ar:Tx->Nat)(l:List RItem)(cs:List AV)(idn idi:Nat)(hR:RtL N ar l)(hE:EL (PI N) l cs)(σ:St):
  ACalls Tryz.prog 128 [Bn N idn l idi cs] σ fun r σ'=>(∃x b,r=tp [x,sc (.bool b)]/\chL N l idn x b/\kC x)/\Keep σ σ':=by
 have hG:=hR.gl;have c9:=EL.length Dd hE;have bn:=hG.len;have cj:=(hG.bkm hE).bk bn;have HB:Akc (BkM N l cs):=hG.bkm hE;have cz:Akc (EL (PJ N) l cs):=Ow hE fun x hx c hc=>.inl ⟨hc,hG.msr x hx⟩;have HR:Akc (RtL N ar l):=hR;have b1:=fun x c (hx:PI N x c) (hm:x∈l) σ=>We N l cs idn idi cj x c hx (hR.wi x hm) σ;have bv:=fun i x (hx:l[i]?=some x) σ=>R7 N ar l cs idn idi i x hR hE hx σ;clear hG hR cj;refine Z9 51 [.cell 2 62,.tmp 3] Tryz.func128 ?_
 repeat' (first|refine Z1 ?_|(refine Z8 ?_;intro yb ya)|(refine Z4 ?_;clear ya yb)|refine Z3 ?_|exact Zt|(apply ya.out;clear ya yb))
 refine Af (fun m s σ'=>∃(i:Nat),m=l.length-i/\i<=l.length/\s 1=ptr σ.nobj 0/\s 2=ptr (σ.nobj+1) 0/\s 12=sl idi l.length cs/\s 13=sc (.int .i64 l.length)/\s 14=sc (.int .i64 i)/\Keep σ σ'/\σ.nobj+1<σ'.nobj/\σ'.obj σ.nobj=[sl idn N.length (N.map str),sl idi l.length cs]/\σ'.obj (σ.nobj+1)=[nilS,nilS]/\Akc (∀j,j<i->W3 N l j=false)) l.length
  ⟨0,Aj6,Aj6,Aj8,Aj8,Aj8,Aj8,rfl,Xs,Aka,by rw[Ag Aka,Ao],by first|exact Ao|simp[Ao],fun j h=>Aj6⟩ ?_
 rintro m s σ' ⟨i,rfl,hi,h1,h2,cx,cw,cv,hK,c8,b6,b5,hA⟩;have c7:=hK.nobj;by_cases cd:i<l.length
 ·have aa:=Agz cd;have ay:=Ain cd;obtain⟨cc,ih,idb,b,r,br,hd⟩:=Em hE aa;generalize l[i]=x at hd aa cc br ay;have da:=EL.length Ds br;have a4:=PI.of (ih:=ih) (id:=idb) cc br;have ap:=fun σ=>b1 x _ a4 ay σ;have ax:=fun σ=>bv i x aa σ;have av:Akc (W3 N l i=false->∀j,j<i+1->W3 N l j=false):=fun hf j hj=>by
   rcases Agq j i with h|h
   ·exact hA.out j h
   ·rw[show j=i by omega,hf]
  have ai:W3 N l i=(Nk x&&(match Fi l i x.head.pred with|some e=>Cy N l (Co i [Da x.head.pred e] l)|none=>false)):=by unfold W3;rw[aa]
  cases ha:Nk x with
  |false=>
   have a7:Akc (∀j,j<i+1->W3 N l j=false):=av.out (by rw[ai,ha];rfl);rw[ha]at ap;clear ai av hA ha ax aa a4
   repeat' (first|refine Z1 ?_|(refine Z8 ?_;intro yb ya)|(refine Z4 ?_;clear ya yb)|(refine Z2 ?_ ?_<;>intro h ae<;>try exact Xp)|(refine Z5 ?_;refine Xi (ap _) ?_;rintro _ _ ⟨rfl,af⟩;(have ad:=af.nobj;have ac:=af.obj;simp only[Ab,Aa]at ad ac))|refine Z3 ?_|exact Zt|(apply ya.out;clear ya yb))
   refine⟨l.length-(i+1),Aj6,i+1,?_⟩
   ((repeat' refine Zi ?_ ?_)<;>first|exact Xq|exact a7|exact Xs)
  |true=>
   rw[ha]at ap ai;cases hs:Fi l i x.head.pred with
   |none=>
    have a7:Akc (∀j,j<i+1->W3 N l j=false):=av.out (by rw[ai,hs];rfl);have e1:Lr N l i x.head.pred= -1:=by unfold Lr;rw[hs]
    rw[e1]at ax;clear ai av hA ha hs e1 aa a4
    repeat' (first|refine Z1 ?_|(refine Z8 ?_;intro yb ya)|(refine Z4 ?_;clear ya yb)|(refine Z2 ?_ ?_<;>intro h ae<;>try exact Xp)|(refine Z5 ?_;first|(refine Xi (ap _) ?_;rintro _ _ ⟨rfl,af⟩;(have ad:=af.nobj;have ac:=af.obj;simp only[Ab,Aa]at ad ac))|(refine Xi (ax _) ?_;rintro _ _ ⟨rfl,an⟩;(have bf:=an.nobj;have ah:=an.obj)))|refine Z3 ?_|exact Zt|(apply ya.out;clear ya yb))
    refine⟨l.length-(i+1),Aj6,i+1,?_⟩
    ((repeat' refine Zi ?_ ?_)<;>first|exact Xq|exact a7|exact Xs)
   |some e=>
    rw[hs]at ai;simp only[Aie]at ai;have e1:Lr N l i x.head.pred=((N.idxOf e:Nat):Int):=by unfold Lr;rw[hs]
    rw[e1]at ax;have a8:=(Il HR.out aa ha).1;have ce:=(Il HR.out aa ha).2.1;have ab:=fun (ih ib:Nat) (xs:List AV) (h:EL Qf (Eo (A3 N x)).body xs)=>sX HR.out aa ha hs (ih:=ih) (ib:=ib) h;have bb:=yC HR.out aa ha hs;have HC:Akc (∀id c' x',W3 N l i=true->x'=Bn N idn (Co i [Da x.head.pred e] l) id c'->EL (PI N) (Co i [Da x.head.pred e] l) c'->chL N l idn x' true):=fun id c' x' ho bg bq=>.inr ⟨rfl,i,x,e,aa,ha,hs,ho,hA.out,id,c',bg,bq⟩;have bz:=Aao a4;rw[a8]at bz;have a9:=fun σ=>sK (A3 N x) _ bz (nT (HR.out.ru x ay a8) (HR.out.gl.msr x ay) a8 (HR.out.wit x ay)).r52 σ;have b0:(Eo (A3 N x)).body.length=2:=by simp[Eo,A3,ce]
    have a3:=fun co ido (h:EL (PJ N) [Da x.head.pred e] co) σ=>Ly (E:=PJ N) Aam N l [Da x.head.pred e] cs co idn idi ido i cz.out h Aj6 (by simp) σ;have ao:=fun c' id' (h:EL (PJ N) (Co i [Da x.head.pred e] l) c') σ=>Hu N l (Co i [Da x.head.pred e] l) cs c' idn idi id' HB.out (Adq HR.out bb (by simp) i h) σ;have au:Akc (∀c',Cy N l (Co i [Da x.head.pred e] l)=true->EL (PJ N) (Co i [Da x.head.pred e] l) c'->EL (PI N) (Co i [Da x.head.pred e] l) c'):=fun c' hb h=>by
     unfold Cy at hb;simp only[Ag3]at hb;exact Ow h fun y hy c hc=>(hc.pi ((Qz hb.1).2 y hy)).1
    have b4:Akc (∀c,PI N (Da x.head.pred e) c->PJ N (Da x.head.pred e) c):=fun c hc=>.inl ⟨hc,by
     obtain⟨r,h1,h2,h3⟩:=bb (Da x.head.pred e) (by simp) (by simp[Da])
     rw[h1];exact h2.msr Aj6⟩
    rw[<-ai]at ao au;simp only[Aii]at a3;generalize Da x.head.pred e=V at ab bb HC a3 ao au b4;generalize Co i [V] l=W at HC a3 ao au;generalize Eo (A3 N x)=O at ab a9 b0;rw[b0]at a9;have cm:Akc _:=ab;rw[a8]at ap hd;clear ai hA ha hs e1 aa a4 ab bb bz b0 ce
    repeat' (first|refine Z1 ?_|(refine Z8 ?_;intro yb ya)|(refine Z4 ?_;clear ya yb)|(refine Z2 ?_ ?_<;>intro h ae<;>try exact Xp)|(refine Z5 ?_;first|(refine Xi (ap _) ?_;rintro _ _ ⟨rfl,af⟩;(have ad:=af.nobj;have ac:=af.obj;simp only[Ab,Aa]at ad ac))|(refine Xi (ax _) ?_;rintro _ _ ⟨rfl,an⟩;(have bf:=an.nobj;have ah:=an.obj)))|refine Z3 ?_|exact Zt)
    refine ACalls.mono (a9 _) ?_;rintro _ σ4 ⟨⟨jh,X,xs,rfl,cf,ci⟩,ba⟩;obtain⟨o,cap,rfl,cq,cr,bo,ct,b8⟩:=cf.gx Aj6;have cn:=ba.nobj;have ak:=ba.obj;refine Z3 ?_;refine ya.out _ _ ?_;clear ya yb;refine cV ?_;have bw:Keep σ ((σ4.new [sc (.bool false),ic 0,nilS,nilS]).put σ4.nobj [sc (.bool false),ic O.head.p,sl jh O.head.ts.length (Ac O.head.ts),gx o 2 cap]):=((((((hK.new _).put hK.nobj _).trans af).trans an).trans ba).new _).put Aj6 _;have ca:((σ4.new [sc (.bool false),ic 0,nilS,nilS]).put σ4.nobj [sc (.bool false),ic O.head.p,sl jh O.head.ts.length (Ac O.head.ts),gx o 2 cap]).obj o=σ4.obj o:=by rw[Ah Aj6,Ag Aj6]
    have bh:((σ4.new [sc (.bool false),ic 0,nilS,nilS]).put σ4.nobj [sc (.bool false),ic O.head.p,sl jh O.head.ts.length (Ac O.head.ts),gx o 2 cap]).obj σ4.nobj=[sc (.bool false),ic O.head.p,sl jh O.head.ts.length (Ac O.head.ts),gx o 2 cap]:=Aj;have b3:((σ4.new [sc (.bool false),ic 0,nilS,nilS]).put σ4.nobj [sc (.bool false),ic O.head.p,sl jh O.head.ts.length (Ac O.head.ts),gx o 2 cap]).obj σ.nobj=[sl idn N.length (N.map str),sl idi l.length cs]:=by
     rw[Ah Aj6,Ag Aj6,ak _ Aj6,ah _ Aj6,ac _ Aj6,Ah Aj6,Ag Aj6,b6]
    have b2:((σ4.new [sc (.bool false),ic 0,nilS,nilS]).put σ4.nobj [sc (.bool false),ic O.head.p,sl jh O.head.ts.length (Ac O.head.ts),gx o 2 cap]).obj (σ.nobj+1)=[nilS,nilS]:=by
     rw[Ah Aj6,Ag Aj6,ak _ Aj6,ah _ Aj6,ac _ Aj6,Ah Aj6,Ag Aj6,b5]
    have cb:σ4.nobj<((σ4.new [sc (.bool false),ic 0,nilS,nilS]).put σ4.nobj [sc (.bool false),ic O.head.p,sl jh O.head.ts.length (Ac O.head.ts),gx o 2 cap]).nobj:=Akb;generalize (σ4.new [sc (.bool false),ic 0,nilS,nilS]).put σ4.nobj [sc (.bool false),ic O.head.p,sl jh O.head.ts.length (Ac O.head.ts),gx o 2 cap]=A at bw ca bh b3 b2 cb;have bp:1<(σ4.obj o).length:=Aj6;have bi:o≠σ4.nobj:=Aj6;have bm:o≠σ.nobj:=Aj6;have bl:o≠σ.nobj+1:=Aj6;refine Bt (Q:=fun e' s' σ''=>e'= .normal/\s' 1=ptr σ.nobj 0/\s' 2=ptr (σ.nobj+1) 0/\s' 4=ic i/\s' 7=ptr σ4.nobj 0/\s' 12=sl idi l.length cs/\s' 13=ic l.length/\s' 14=ic i/\σ''=A.put o ((σ4.obj o).set 1 (ic (N.idxOf e:Nat)))) ?_ ?_
    ·repeat' (first|refine Z1 ?_|(refine Z8 ?_;intro yb ya)|(refine Z4 ?_;clear ya yb)|refine Z3 ?_|exact Zt)
    rintro e' s' σ'' ⟨rfl,g1,g2,g4,g7,g12,g13,g14,rfl⟩;have a0:(A.put o ((σ4.obj o).set 1 (ic (N.idxOf e:Nat)))).obj σ4.nobj=[sc (.bool false),ic O.head.p,sl jh O.head.ts.length (Ac O.head.ts),gx o 2 cap]:=by rw[Cm bi.symm,bh]
    refine V9 (o:=o) (p:=σ4.nobj) (j:=3) (k:=6) (by simp only[Ab];omega) (by simp only[Ab];omega) bi a0 rfl (by rw[Aj,Ajr];omega) ?_;have az:((A.put o ((σ4.obj o).set 1 (ic (N.idxOf e:Nat)))).obj o).take 6=xs.set 1 (ic (N.idxOf e:Nat)):=by rw[Aj,List.take_set,b8]
    rw[az];have ch:Keep σ (((A.put o ((σ4.obj o).set 1 (ic (N.idxOf e:Nat)))).put o []).put σ4.nobj ([sc (.bool false),ic O.head.p,sl jh O.head.ts.length (Ac O.head.ts),gx o 2 cap].set 3 (sl 0 2 (xs.set 1 (ic (N.idxOf e:Nat)))))):=((bw.put Aj6 _).put Aj6 _).put Aj6 _;have b9:(((A.put o ((σ4.obj o).set 1 (ic (N.idxOf e:Nat)))).put o []).put σ4.nobj ([sc (.bool false),ic O.head.p,sl jh O.head.ts.length (Ac O.head.ts),gx o 2 cap].set 3 (sl 0 2 (xs.set 1 (ic (N.idxOf e:Nat)))))).obj σ4.nobj=[sc (.bool false),ic O.head.p,sl jh O.head.ts.length (Ac O.head.ts),sl 0 2 (xs.set 1 (ic (N.idxOf e:Nat)))]:=Aj;have cy:(((A.put o ((σ4.obj o).set 1 (ic (N.idxOf e:Nat)))).put o []).put σ4.nobj ([sc (.bool false),ic O.head.p,sl jh O.head.ts.length (Ac O.head.ts),gx o 2 cap].set 3 (sl 0 2 (xs.set 1 (ic (N.idxOf e:Nat)))))).obj σ.nobj=[sl idn N.length (N.map str),sl idi l.length cs]:=by
     rw[Cm Aj6,Cm bm.symm,Cm bm.symm,b3]
    have cu:(((A.put o ((σ4.obj o).set 1 (ic (N.idxOf e:Nat)))).put o []).put σ4.nobj ([sc (.bool false),ic O.head.p,sl jh O.head.ts.length (Ac O.head.ts),gx o 2 cap].set 3 (sl 0 2 (xs.set 1 (ic (N.idxOf e:Nat)))))).obj (σ.nobj+1)=[nilS,nilS]:=by
     rw[Cm Aj6,Cm bl.symm,Cm bl.symm,b2]
    have cp:σ4.nobj<(((A.put o ((σ4.obj o).set 1 (ic (N.idxOf e:Nat)))).put o []).put σ4.nobj ([sc (.bool false),ic O.head.p,sl jh O.head.ts.length (Ac O.head.ts),gx o 2 cap].set 3 (sl 0 2 (xs.set 1 (ic (N.idxOf e:Nat)))))).nobj:=by simp only[Ab];omega
    generalize ((A.put o ((σ4.obj o).set 1 (ic (N.idxOf e:Nat)))).put o []).put σ4.nobj ([sc (.bool false),ic O.head.p,sl jh O.head.ts.length (Ac O.head.ts),gx o 2 cap].set 3 (sl 0 2 (xs.set 1 (ic (N.idxOf e:Nat)))))=F at ch b9 cy cu cp;have cg:=b4.out _ (cm.out jh 0 xs ci);have bu:=EL.single cg;generalize xs.set 1 (ic (N.idxOf e:Nat))=ys at b9 bu;have ck:Akc _:=bu;clear a0 az bw ca bh b3 b2 cb bp bi bm bl cg bu b8 ci cf ba ak an ah af ac a9 cm b4 ap ax b6 b5 h1 h2 cx cw cv bo ct cq cr hd;have knoF:=ch.nobj;cases aw:W3 N l i with
    |true=>
     rw[aw]at ao au;have c5:Akc (∀id c' x',x'=Bn N idn W id c'->EL (PJ N) W c'->chL N l idn x' true):=fun id c' x' bg bq=>HC.out id c' x' aw bg (au.out c' rfl bq);clear av au HC aw
     repeat' (first|refine Z1 ?_|(refine Z8 ?_;intro yb ya)|(refine Z4 ?_;clear ya yb)|(refine Z2 ?_ ?_<;>intro h ae<;>try exact Xp)|(refine Z5 ?_;first|(refine Xi (a3 _ _ ck.out _) ?_;rintro _ _ ⟨⟨id6,c6,rfl,bc⟩,a6⟩;(have am:=a6.nobj;have aj:=a6.obj;(try simp only[Ab,Aa,Aw]at am aj)))|(refine Xi (ao c6 id6 bc _) ?_;rintro _ _ ⟨⟨x7,rfl,b7,⟨id71,n71,c71,id72,n72,c72,rfl⟩⟩,a5⟩;(have be:=a5.nobj;have bd:=a5.obj)))|refine Z3 ?_|exact Zt|(apply ya.out;clear ya yb))
     exact⟨_,rfl,⟨_,true,rfl,c5.out _ _ _ (b7 rfl) bc,_,_,_,_,_,_,rfl⟩,Xs⟩
    |false=>
     rw[aw]at ao;have a7:Akc (∀j,j<i+1->W3 N l j=false):=av.out aw;clear av au HC aw
     repeat' (first|refine Z1 ?_|(refine Z8 ?_;intro yb ya)|(refine Z4 ?_;clear ya yb)|(refine Z2 ?_ ?_<;>intro h ae<;>try exact Xp)|(refine Z5 ?_;first|(refine Xi (a3 _ _ ck.out _) ?_;rintro _ _ ⟨⟨id6,c6,rfl,bc⟩,a6⟩;(have am:=a6.nobj;have aj:=a6.obj;(try simp only[Ab,Aa,Aw]at am aj)))|(refine Xi (ao c6 id6 bc _) ?_;rintro _ _ ⟨⟨x7,rfl,b7,⟨id71,n71,c71,id72,n72,c72,rfl⟩⟩,a5⟩;(have be:=a5.nobj;have bd:=a5.obj)))|refine Z3 ?_|exact Zt|(apply ya.out;clear ya yb))
     refine⟨l.length-(i+1),Aj6,i+1,?_⟩
     ((repeat' refine Zi ?_ ?_)<;>first|exact Xq|exact a7|exact Xs)
 ·have hil:i=l.length:=Aj6;subst hil
  repeat' (first|refine Z1 ?_|(refine Z8 ?_;intro yb ya)|(refine Z4 ?_;clear ya yb)|(refine Z2 ?_ ?_<;>intro h ae<;>try exact Xp)|refine Z3 ?_|exact Zt|(apply ya.out;clear ya yb))
  exact⟨_,rfl,⟨_,false,rfl,.inl ⟨rfl,hA.out⟩,_,_,_,_,_,_,rfl⟩,Xs⟩
def StpR (T:List RItem->Option (List RItem)->Prop)(N:List Tx)(l:List RItem)(idn:Nat)(x:AV)(b:Bool):Prop:=kC x/\∃o,T l o/\b=o.isSome/\∀l',o=some l'->∃id c',x=Bn N idn l' id c'/\EL (PI N) l' c'
def StS (N:List Tx)(l:List RItem)(o:Option (List RItem)):Prop:=∃M,Dq N l M/\
 (((G3 N (F8 N.length M N.length) l).length=l.length/\o=none)\/((G3 N (F8 N.length M N.length) l).length≠l.length/\
  ((Cy N l (G3 N (F8 N.length M N.length) l)=false/\o=none)\/(Cy N l (G3 N (F8 N.length M N.length) l)=true/\o=some (G3 N (F8 N.length M N.length) l)))))
def StU (N:List Tx)(l:List RItem)(o:Option (List RItem)):Prop:=∃M,Dq N l M/\
 ((o=none/\sP N (F8 N.length M N.length) l l.length)\/∃i k y a,o=some (Co i (uL N l y k a.pred) l)/\l[i]?=some y/\y.out=false/\y.body[k]?=some a/\Wr N (F8 N.length M N.length) l i k=true/\sP N (F8 N.length M N.length) l i/\∀k',k'<k->Wr N (F8 N.length M N.length) l i k'=false)
def StL (N:List Tx)(l:List RItem)(o:Option (List RItem)):Prop:=
 (o=none/\∀i,i<l.length->W3 N l i=false)\/∃i y e,o=some (Co i [Da y.head.pred e] l)/\l[i]?=some y/\Nk y=true/\Fi l i y.head.pred=some e/\W3 N l i=true/\∀j,j<i->W3 N l j=false
theorem chS.stp {N:List Tx}{l:List RItem}{idn:Nat}{x:AV}{b:Bool}(h:chS N l idn x b)(ht:kC x):StpR (StS N) N l idn x b:=by
 refine⟨ht,?_⟩;obtain⟨M,hM,h⟩:=h;rcases h with⟨h1,rfl⟩|⟨h1,h2,h3⟩
 ·exact⟨none,⟨M,hM,.inl ⟨h1,rfl⟩⟩,rfl,fun l' e=>by cases e⟩
 ·cases hb:Cy N l (G3 N (F8 N.length M N.length) l)with
  |false=>exact⟨none,⟨M,hM,.inr ⟨h1,.inl ⟨hb,rfl⟩⟩⟩,by rw[h2,hb];rfl,fun l' e=>by cases e⟩
  |true=>exact⟨_,⟨M,hM,.inr ⟨h1,.inr ⟨hb,rfl⟩⟩⟩,by rw[h2,hb];rfl,fun l' e=>by cases e;exact h3 (by rw[h2,hb])⟩
theorem chU.stp {N:List Tx}{l:List RItem}{idn:Nat}{x:AV}{b:Bool}(h:chU N l idn x b)(ht:kC x):StpR (StU N) N l idn x b:=by
 refine⟨ht,?_⟩;obtain⟨M,hM,⟨rfl,h⟩|⟨rfl,i,k,y,a,h1,h2,h3,h4,h5,h6,id,c',h7,h8⟩⟩:=h
 ·exact⟨none,⟨M,hM,.inl ⟨rfl,h⟩⟩,rfl,fun l' e=>by cases e⟩
 ·exact⟨_,⟨M,hM,.inr ⟨i,k,y,a,rfl,h1,h2,h3,h4,h5,h6⟩⟩,rfl,fun l' e=>by cases e;exact⟨id,c',h7,h8⟩⟩
theorem chL.stp {N:List Tx}{l:List RItem}{idn:Nat}{x:AV}{b:Bool}(h:chL N l idn x b)(ht:kC x):StpR (StL N) N l idn x b:=by
 refine⟨ht,?_⟩;rcases h with⟨rfl,h⟩|⟨rfl,i,y,e,h1,h2,h3,h4,h5,id,c',h7,h8⟩
 ·exact⟨none,.inl ⟨rfl,h⟩,rfl,fun l' e=>by cases e⟩
 ·exact⟨_,.inr ⟨i,y,e,rfl,h1,h2,h3,h4,h5⟩,rfl,fun l' e=>by cases e;exact⟨id,c',h7,h8⟩⟩
theorem StS.rt {N:List Tx}{ar:Tx->Nat}{l l':List RItem}(h:StS N l (some l'))(hR:RtL N ar l):RtL N ar l':=by
 obtain⟨M,-,⟨-,h⟩|⟨-,⟨-,h⟩|⟨-,h⟩⟩⟩:=h
 ·cases h
 ·cases h
 ·cases h;exact hR.sub (fun x hx=>(Ai7.1 hx).1) (Ago (Ai6 _ _) hR.gl.len)
theorem bR {N:List Tx}{U:Nat->Nat->Bool}{l:List RItem}{i k:Nat}{y:RItem}{a:RAtom}(h1:l[i]?=some y)(h2:y.body[k]?=some a)(h:Wr N U l i k=true):Cy N l (Co i (uL N l y k a.pred) l)=true:=by
 unfold Wr at h;rw[h1]at h;dsimp only at h;rw[h2]at h;simp only[Ag3]at h;exact h.2.2.2
theorem pY {N:List Tx}{l:List RItem}{i:Nat}{y:RItem}{e:Tx}(h1:l[i]?=some y)(h2:Fi l i y.head.pred=some e)(h:W3 N l i=true):Cy N l (Co i [Da y.head.pred e] l)=true:=by
 unfold W3 at h;rw[h1]at h;dsimp only at h;rw[h2]at h;simp only[Ag3]at h;exact h.2
theorem StU.rt {N:List Tx}{ar:Tx->Nat}{l l':List RItem}(h:StU N l (some l'))(hR:RtL N ar l):RtL N ar l':=by
 obtain⟨M,-,⟨h,-⟩|⟨i,k,y,a,h,h1,h2,h3,h4,-⟩⟩:=h
 ·cases h
 ·cases h;exact Ado hR (Adk hR (Ag1 h1) h2 h3) i (bR h1 h3 h4)
theorem StL.rt {N:List Tx}{ar:Tx->Nat}{l l':List RItem}(h:StL N l (some l'))(hR:RtL N ar l):RtL N ar l':=by
 rcases h with⟨h,-⟩|⟨i,y,e,h,h1,h2,h3,h4,-⟩
 ·cases h
 ·cases h;exact Ado hR (yC hR h1 h2 h3) i (pY h1 h3 h4)
theorem tP (N:List Tx)(ar:Tx->Nat)(l:List RItem)(cs:List AV)(idn idi:Nat)(hR:RtL N ar l)(hE:EL (PI N) l cs)(σ:St):
  ACalls Tryz.prog 73 [Bn N idn l idi cs,sc (.int .u8 (115:UInt8).toNat)] σ fun r σ'=>(∃x b,r=tp [x,sc (.bool b)]/\StpR (StS N) N l idn x b)/\Keep σ σ':=by
 have hS:=fun σ=>Lm N l cs idn idi hR.gl hE σ;have e1:((((115:UInt8).toNat:Nat):Int)==115)=true:=rfl;refine Z9 38 [.cell 4 62,.tmp 5] Tryz.func73 ?_
 repeat' (first|refine Z1 ?_|(refine Z8 ?_;intro yb ya)|(refine Z4 ?_;clear ya yb)|(refine Z2 ?_ ?_<;>intro h af<;>try exact Xp)|(refine Z5 ?_;refine Xi (hS _) ?_;rintro _ _ ⟨⟨x1,b1,rfl,ac,ad⟩,ae⟩;(have HX:Akc _:=ac;have HT:Akc (kC x1):=ad;obtain⟨t1,t2,t3,t4,t5,t6,rfl⟩:=ad;clear ac;have ab:=ae.nobj;have aa:=ae.obj;(try simp only[Aa]at ab aa)))|refine Z3 ?_|exact Zt|(apply ya.out;clear ya yb))
 exact⟨_,rfl,⟨_,b1,rfl,chS.stp HX.out HT.out⟩,Xs⟩
theorem tO (N:List Tx)(ar:Tx->Nat)(l:List RItem)(cs:List AV)(idn idi:Nat)(hR:RtL N ar l)(hE:EL (PI N) l cs)(σ:St):
  ACalls Tryz.prog 73 [Bn N idn l idi cs,sc (.int .u8 (117:UInt8).toNat)] σ fun r σ'=>(∃x b,r=tp [x,sc (.bool b)]/\StpR (StU N) N l idn x b)/\Keep σ σ':=by
 have hS:=fun σ=>O1 N ar l cs idn idi hR hE σ;have e1:((((117:UInt8).toNat:Nat):Int)==115)=false:=rfl;have e2:((((117:UInt8).toNat:Nat):Int)==97)=false:=rfl;have e3:((((117:UInt8).toNat:Nat):Int)==114)=false:=rfl;have e4:((((117:UInt8).toNat:Nat):Int)==117)=true:=rfl;refine Z9 38 [.cell 4 62,.tmp 5] Tryz.func73 ?_
 repeat' (first|refine Z1 ?_|(refine Z8 ?_;intro yb ya)|(refine Z4 ?_;clear ya yb)|(refine Z2 ?_ ?_<;>intro h af<;>try exact Xp)|(refine Z5 ?_;refine Xi (hS _) ?_;rintro _ _ ⟨⟨x1,b1,rfl,ac,ad⟩,ae⟩;(have HX:Akc _:=ac;have HT:Akc (kC x1):=ad;obtain⟨t1,t2,t3,t4,t5,t6,rfl⟩:=ad;clear ac;have ab:=ae.nobj;have aa:=ae.obj;(try simp only[Aa]at ab aa)))|refine Z3 ?_|exact Zt|(apply ya.out;clear ya yb))
 exact⟨_,rfl,⟨_,b1,rfl,chU.stp HX.out HT.out⟩,Xs⟩
theorem tR (N:List Tx)(ar:Tx->Nat)(l:List RItem)(cs:List AV)(idn idi:Nat)(hR:RtL N ar l)(hE:EL (PI N) l cs)(σ:St):
  ACalls Tryz.prog 73 [Bn N idn l idi cs,sc (.int .u8 (108:UInt8).toNat)] σ fun r σ'=>(∃x b,r=tp [x,sc (.bool b)]/\StpR (StL N) N l idn x b)/\Keep σ σ':=by
 have hS:=fun σ=>R3 N ar l cs idn idi hR hE σ;have e1:((((108:UInt8).toNat:Nat):Int)==115)=false:=rfl;have e2:((((108:UInt8).toNat:Nat):Int)==97)=false:=rfl;have e3:((((108:UInt8).toNat:Nat):Int)==114)=false:=rfl;have e4:((((108:UInt8).toNat:Nat):Int)==117)=false:=rfl;have e5:((((108:UInt8).toNat:Nat):Int)==108)=true:=rfl;refine Z9 38 [.cell 4 62,.tmp 5] Tryz.func73 ?_
 repeat' (first|refine Z1 ?_|(refine Z8 ?_;intro yb ya)|(refine Z4 ?_;clear ya yb)|(refine Z2 ?_ ?_<;>intro h af<;>try exact Xp)|(refine Z5 ?_;refine Xi (hS _) ?_;rintro _ _ ⟨⟨x1,b1,rfl,ac,ad⟩,ae⟩;(have HX:Akc _:=ac;have HT:Akc (kC x1):=ad;obtain⟨t1,t2,t3,t4,t5,t6,rfl⟩:=ad;clear ac;have ab:=ae.nobj;have aa:=ae.obj;(try simp only[Aa]at ab aa)))|refine Z3 ?_|exact Zt|(apply ya.out;clear ya yb))
 exact⟨_,rfl,⟨_,b1,rfl,chL.stp HX.out HT.out⟩,Xs⟩
end Go.Proofs.YtmoeoppbmhfbpabGreatDoorL
