import Derived.Test.YtmoeoppbmhfbpabGreatDoorHAgrB
import Derived.Test.YtmoeoppbmhfbpabGreatDoorHPrtH
import Derived.Test.YtmoeoppbmhfbpabGreatDoorHUnfF
import Derived.Test.YtmoeoppbmhfbpabGreatDoorHEngW
set_option linter.all false
namespace Go.Proofs.YtmoeoppbmhfbpabGreatDoorH
set_option maxHeartbeats 64000000
open Go.Abs
set_option maxRecDepth 100000
def wF (p:Tx):Tx:=p++[40,65,44,66,41,58,45]++p++[40,65,44,67,41,44]++p++[40,67,44,66,41,46]
def pY (p e:Tx):Tx:=p++[40,65,44,66,41,58,45]++e++[40,65,44,66,41,46]
def Lu (x:RItem):Bool:=C6 x==wF x.head.pred
def Ln (x:RItem):Bool:=match x.body with
 |[a]=>!decide (a.pred=x.head.pred)&&(C6 x==pY x.head.pred a.pred)
 |_=>false
theorem fZ {N:List Tx}{p:Tx}(h:p∈N):(N.map str).drop (N.idxOf p)=str p::(N.map str).drop (N.idxOf p+1):=by
 have aa:=Ac1 h;have:=Cm aa;rwa[Ac0 aa]at this
theorem T6 (N:List Tx)(l:List RItem)(cs:List AV)(idn idi:Nat)(hB:Bk N l cs)(x:RItem)(c:List AV)(hx:PI N x c)(hw:WI N x)(d:St):ACalls Tryz.prog 180 [B7 N idn l idi cs,ag c] d fun r d'=>r=sc (.bool (Lu x))/\Keep d d':=by
 have hT:=fun d=>Ii N l cs idn idi hB x c hx hw d;have hN:=hB.nm;have hpl:=hw.short.1.1;obtain⟨hm,ih,id,b,hb,rfl⟩:=hx;have ab:=Ac1 hm;have ac:=fZ hm;have h1:({data:=#[40,65,44,66,41,58,45]}:ByteArray)=bs [40,65,44,66,41,58,45]:=rfl;have h2:({data:=#[40,65,44,67,41,44]}:ByteArray)=bs [40,65,44,67,41,44]:=rfl;have h3:({data:=#[40,67,44,66,41,46]}:ByteArray)=bs [40,67,44,66,41,46]:=rfl;have HA:Ad8 (∀t,t=wF x.head.pred->(C6 x==t)=Lu x):=fun t e=>by rw[e];rfl
 generalize N.idxOf x.head.pred=ix at ab ac hT;generalize C6 x=W at hT HA;refine Z9 25 [.tmp 4] Tryz.func180 ?_
 repeat' (first|refine Z1 ?_|(refine Z8 ?_;intro κ hκ)|(refine Z4 ?_;clear hκ κ)|(refine Z2 ?_ ?_<;>intro h ad<;>try exact Xp)|(refine Z5 ?_;refine Xi (hT _) ?_;rintro _ _ ⟨rfl,ae⟩;(have aa:=ae.nobj))|refine Z7 ?_|exact⟨⟩|(apply hκ.out;clear hκ κ))
 exact⟨_,rfl,by rw[<-HA.out _ rfl];simp[wF],Xs⟩
theorem rX {N:List Tx}{p q:Tx}(hp:p∈N)(hq:q∈N):(((N.idxOf p:Nat):Int)==((N.idxOf q:Nat):Int))=decide (p=q):=by
 by_cases h:p=q
 ·subst h;simp
 ·have:N.idxOf p≠N.idxOf q:=fun e=>h (by
   have h1:=Ac0 (Ac1 hp);have h2:=Ac0 (Ac1 hq)
   rw[<-h1,<-h2];congr 1)
  simp[h];omega
theorem cV (N:List Tx)(l:List RItem)(cs:List AV)(idn idi:Nat)(hB:Bk N l cs)(x:RItem)(c:List AV)(hx:PI N x c)(hw:WI N x)(d:St):ACalls Tryz.prog 213 [B7 N idn l idi cs,ag c] d fun r d'=>r=sc (.bool (Ln x))/\Keep d d':=by
 have hT:=fun d=>Ii N l cs idn idi hB x c hx hw d;have hN:=hB.nm;have hpl:=hw.short.1.1;have ae:=hw.short.2;have au:=hw.body;obtain⟨hm,ih,id,b,hb,rfl⟩:=hx;have ah:=Ac1 hm;have ai:=fZ hm;have ao:=EL.length Dm hb;have h1:({data:=#[40,65,44,66,41,58,45]}:ByteArray)=bs [40,65,44,66,41,58,45]:=rfl;have h2:({data:=#[40,65,44,66,41,46]}:ByteArray)=bs [40,65,44,66,41,46]:=rfl;by_cases ab:x.body.length=1
 ·obtain⟨a,ad⟩:=List.length_eq_one_iff.1 ab;have ac:x.body[0]?=some a:=by rw[ad];rfl
  obtain⟨af,ia,ra,aj⟩:=L4 hb ac;have av:=(ae a (by rw[ad];simp)).1;have am:=Ac1 af;have an:=fZ af;have hq:=rX af hm;have ap:((x.body.length:Int) !=1)=false:=by rw[ab];rfl
  simp only[Abz,List.drop_zero]at aj;subst aj;have HS:Ad8 (Ln x=(!decide (a.pred=x.head.pred)&&(C6 x==pY x.head.pred a.pred))):=by rw[Ad8,Ln,ad]
  have aw:0<x.body.length:=Ad2;generalize N.idxOf x.head.pred=ix at ah ai hT hq;generalize N.idxOf a.pred=jx at am an hq hT ao;generalize C6 x=W at hT HS;generalize x.body.length=n at*
  clear ab ac ad ae hb;refine Z9 49 [.tmp 4] Tryz.func213 ?_
  repeat' (first|refine Z1 ?_|(refine Z8 ?_;intro κ hκ)|(refine Z4 ?_;clear hκ κ)|(refine Z2 ?_ ?_<;>intro h aa<;>try exact Xp)|refine Z7 ?_|exact⟨⟩|(apply hκ.out;clear hκ κ))
  refine Br (Q:=fun e s' d''=>e= .normal/\s' 22=sc (.bool (decide (a.pred=x.head.pred)))/\s' 2=ptr d.nobj 0/\s' 3=ptr (d.nobj+1) 0/\d''=(d.new [sl idn N.length (N.map str),sl idi l.length cs]).new [sc (.bool x.out),sc (.int .i64 ix),sl ih x.head.terms.length (Aw x.head.terms),sl id n (sc (.bool a.nt)::sc (.int .i64 jx)::sl ia a.terms.length (Aw a.terms)::ra)]) ?_ ?_
  ·refine A4 Ak (fun _=>True) [] [0,1,2,3,4,5,6,7,8,9,10,11,12,13,14,15] 0 #[true,true,true,true,true,true,true,true,true,true,true,true,true,true,true,true] Ad5 (fun _ _ _ h=>by cases h.1) ?_;intro κ hκ;refine Z7 ?_;refine hκ.out _ ?_;clear hκ κ;exact A7 Ad5 ⟨rfl,Ad3,Ad3,Ad3,rfl⟩
  rintro e s' d'' ⟨rfl,g22,g2,g3,rfl⟩;cases hp:decide (a.pred=x.head.pred)with
  |true=>
   have HF:Ad8 (Ln x=false):=by rw[Ad8,HS.out,hp];rfl
   rw[hp]at g22;clear HS hp;refine F8 g22 ?_
   repeat' (first|refine Z1 ?_|(refine Z8 ?_;intro κ hκ)|(refine Z4 ?_;clear hκ κ)|(refine Z2 ?_ ?_<;>intro h aa<;>try exact Xp)|refine Z7 ?_|exact⟨⟩|(apply hκ.out;clear hκ κ))
   exact⟨_,rfl,by rw[HF.out],Xs⟩
  |false=>
   have HF:Ad8 (∀t,t=pY x.head.pred a.pred->(W==t)=Ln x):=fun t e=>by rw[e,HS.out,hp];rfl
   rw[hp]at g22;clear HS hp hq;refine Du g22 ?_
   repeat' (first|refine Z1 ?_|(refine Z8 ?_;intro κ hκ)|(refine Z4 ?_;clear hκ κ)|(refine Z2 ?_ ?_<;>intro h aa<;>try exact Xp)|refine Z7 ?_|exact⟨⟩|(apply hκ.out;clear hκ κ))
   refine Br (Q:=fun e s' d''=>e= .normal/\s' 5=str x.head.pred/\s' 6=str a.pred/\s' 2=ptr d.nobj 0/\s' 3=ptr (d.nobj+1) 0/\d''=(d.new [sl idn N.length (N.map str),sl idi l.length cs]).new [sc (.bool x.out),sc (.int .i64 ix),sl ih x.head.terms.length (Aw x.head.terms),sl id n (sc (.bool a.nt)::sc (.int .i64 jx)::sl ia a.terms.length (Aw a.terms)::ra)]) ?_ ?_
   ·refine A4 Ak (fun _=>True) [] [0,1,2,3,4,5,6,7,8,9,10] 0 #[true,true,true,true,true,true,true,true,true,true,true] Ad5 (fun _ _ _ h=>by cases h.1) ?_;intro κ hκ;refine Z7 ?_;refine hκ.out _ ?_;clear hκ κ;exact A7 Ad5 ⟨rfl,Ad3,Ad3,Ad3,Ad3,rfl⟩
   rintro e s2 d2 ⟨rfl,k5,k6,k2,k3,rfl⟩
   repeat' (first|refine Z1 ?_|(refine Z8 ?_;intro κ hκ)|(refine Z4 ?_;clear hκ κ)|(refine Z2 ?_ ?_<;>intro h aa<;>try exact Xp)|(refine Z5 ?_;refine Xi (hT _) ?_;rintro _ _ ⟨rfl,ar⟩;(have ak:=ar.nobj))|refine Z7 ?_|exact⟨⟩|(apply hκ.out;clear hκ κ))
   exact⟨_,rfl,by rw[<-HF.out _ rfl];simp[pY],Xs⟩
 ·have ap:((x.body.length:Int) !=1)=true:=by simp;omega
  have HS:Ad8 (Ln x=false):=by
   unfold Ln Ad8;split
   ·rename_i a e;rw[e]at ab;exact absurd rfl ab
   ·rfl
  generalize N.idxOf x.head.pred=ix at ah ai hT;generalize x.body.length=n at*
  clear ab ae hb;refine Z9 49 [.tmp 4] Tryz.func213 ?_
  repeat' (first|refine Z1 ?_|(refine Z8 ?_;intro κ hκ)|(refine Z4 ?_;clear hκ κ)|(refine Z2 ?_ ?_<;>intro h aa<;>try exact Xp)|refine Z7 ?_|exact⟨⟩|(apply hκ.out;clear hκ κ))
  refine Br (Q:=fun e s' d''=>e= .normal/\s' 22=sc (.bool true)/\s' 2=ptr d.nobj 0/\s' 3=ptr (d.nobj+1) 0/\d''=(d.new [sl idn N.length (N.map str),sl idi l.length cs]).new [sc (.bool x.out),sc (.int .i64 ix),sl ih x.head.terms.length (Aw x.head.terms),sl id n b]) ?_ ?_
  ·refine A4 Ak (fun _=>True) [] [0,1,2,3,4,5,6,7,8,9,10,11,12,13,14,15] 0 #[true,true,true,true,true,true,true,true,true,true,true,true,true,true,true,true] Ad5 (fun _ _ _ h=>by cases h.1) ?_;intro κ hκ;refine Z7 ?_;refine hκ.out _ ?_;clear hκ κ;exact A7 Ad5 ⟨rfl,Ad3,Ad3,Ad3,rfl⟩
  rintro e s' d'' ⟨rfl,g22,g2,g3,rfl⟩;refine F8 g22 ?_
  repeat' (first|refine Z1 ?_|(refine Z8 ?_;intro κ hκ)|(refine Z4 ?_;clear hκ κ)|(refine Z2 ?_ ?_<;>intro h aa<;>try exact Xp)|refine Z7 ?_|exact⟨⟩|(apply hκ.out;clear hκ κ))
  exact⟨_,rfl,by rw[HS.out],Xs⟩
def Oy (n:Nat)(q:Tx)(p:RItem×Nat):Bool:=!decide (p.2=n)&&O3 q p.1
def Lp (l:List RItem)(n:Nat)(q:Tx):List RItem:=(l.zipIdx.filter (Oy n q)).map (·.1)
theorem mU {l:List RItem}{n:Nat}{q:Tx}{i:Nat}{y:RItem}(h:l[i]?=some y):Lp (l.take (i+1)) n q=Lp (l.take i) n q++if Oy n q (y,i)=true then [y]else []:=by
 have hi:=(List.getElem?_eq_some_iff.1 h).1;unfold Lp;rw[Abq,h,Ac2,List.zipIdx_append,Adg,Abt,Ab3,Ab6 Ad2];congr 1;rw[show ([y]:List RItem).zipIdx (0+i)=[(y,i)]by simp,Adu];split<;>rfl
theorem rE (l:List RItem)(n:Nat)(q:Tx)(i:Nat):∃r,Lp l n q=Lp (l.take i) n q++r:=by
 refine⟨(((l.drop i).zipIdx (l.take i).length).filter (Oy n q)).map (·.1),?_⟩
 conv=>lhs;rw[<-Ac8 i l]
 unfold Lp;rw[List.zipIdx_append,Adg,Abt,Ab1]
def E9 (l:List RItem)(n:Nat)(q:Tx):Option Tx:=match Lp l n q with
 |[y]=>if Ln y=true then (match y.body with|[a]=>some a.pred|_=>none)else none
 |_=>none
def J8 (N:List Tx)(l:List RItem)(n:Nat)(q:Tx):Int:=match E9 l n q with
 |some e=>(N.idxOf e:Nat)
 |none=> -1
theorem pX {y:RItem}(h:Ln y=true):∃a,y.body=[a]:=by
 unfold Ln at h;split at h
 ·rename_i a e;exact⟨a,e⟩
 ·cases h
theorem P5 (N:List Tx)(ar:Tx->Nat)(l:List RItem)(cs:List AV)(idn idi n:Nat)(x:RItem)(hR:RtL N ar l)(hE:EL (PI N) l cs)(hx:l[n]?=some x)(d:St):ACalls Tryz.prog 181 [B7 N idn l idi cs,sc (.int .i64 n)] d fun r d'=>r=sc (.int .i64 (J8 N l n x.head.pred))/\Keep d d':=by
 have bh:=EL.length Dw hE;have av:=hR.gl.len;have hN:=hR.gl.nm;have a9:=fun y c (hy:PI N y c) (hm:y∈l) d=>cV N l cs idn idi ((hR.gl.bkm hE).bk av) y c hy (hR.wi y hm) d;have bf:n<l.length:=(List.getElem?_eq_some_iff.1 hx).1;obtain⟨a4,ihx,idx,bx,rx,bi,bg⟩:=Gp hE hx;have HB:Ad8 (∀y∈l,y.body.length<=5/\y.head.pred∈N/\∀a∈y.body,y.out=false->a.pred∈N):=fun y hy=>⟨hR.b5 y hy,(hR.gl.msr y hy).mem,fun a ha ho=>((hR.ru y hy ho).body a ha).mem⟩;clear hR;refine Z9 52 [.tmp 4] Tryz.func181 ?_
 repeat' (first|refine Z1 ?_|(refine Z8 ?_;intro κ hκ)|(refine Z4 ?_;clear hκ κ)|(refine Z2 ?_ ?_<;>intro h ac<;>try exact Xp)|refine Z3 ?_|exact⟨⟩|(apply hκ.out;clear hκ κ))
 refine Ad (fun m s d'=>∃(i:Nat) (v:Int),m=l.length-i/\i<=l.length/\s 1=ic n/\s 2=ptr d.nobj 0/\s 5=ic v/\s 9=sl idi l.length cs/\s 10=ic l.length/\s 11=ic i/\Keep d d'/\d.nobj<d'.nobj/\d'.obj d.nobj=[sl idn N.length (N.map str),sl idi l.length cs]/\Ad8 ((Lp (l.take i) n x.head.pred=[]/\v= -1)\/∃y a,Lp (l.take i) n x.head.pred=[y]/\Ln y=true/\y.body=[a]/\v=((N.idxOf a.pred:Nat):Int))) l.length
  ⟨0,-1,Ad2,Ad2,by simp[upd,initS],Ad4,Ad4,Ad4,Ad4,Ad4,Xs,Ad6,Am,.inl ⟨rfl,rfl⟩⟩ ?_
 rintro m s d' ⟨i,v,rfl,hi,h1,h2,h5,h9,bb,ba,hK,be,a3,hA⟩;have bc:=hK.nobj;by_cases az:i<l.length
 ·have af:=List.getElem?_eq_getElem az;have ap:=Acz az;obtain⟨a8,aw,a7⟩:=HB.out l[i] ap;obtain⟨ay,ih,idb,b,r,am,hd⟩:=Gp hE af;have ah:=fun d=>a9 l[i] _ (PI.of (ih:=ih) (id:=idb) ay am) ap d;have aa:=mU (n:=n) (q:=x.head.pred) af;have ab:=rE l n x.head.pred (i+1);generalize l[i]=y at af ap a8 aw a7 ay am hd ah aa ab;have hne:=kU aw a4;have bl:=EL.length Dm am;clear af
  repeat' (first|refine Z1 ?_|(refine Z8 ?_;intro κ hκ)|(refine Z4 ?_;clear hκ κ)|(refine Z2 ?_ ?_<;>intro h ac<;>try exact Xp)|refine Z3 ?_|exact⟨⟩|(apply hκ.out;clear hκ κ))
  refine Br (Q:=fun e s' d''=>e= .normal/\s' 35=sc (.bool (!Oy n x.head.pred (y,i)))/\s' 1=ic n/\s' 2=ptr d.nobj 0/\s' 5=ic v/\s' 7=ptr d'.nobj 0/\s' 9=sl idi l.length cs/\s' 10=ic l.length/\s' 11=ic i/\d''=(d'.new [sc (.bool false),ic 0,nilS,nilS]).put d'.nobj [sc (.bool y.out),sc (.int .i64 (N.idxOf y.head.pred:Nat)),sl ih y.head.terms.length (Aw y.head.terms),sl idb y.body.length b]) ?_ ?_
  ·have ax:((d'.new [sc (.bool false),ic 0,nilS,nilS]).put d'.nobj [sc (.bool y.out),sc (.int .i64 (N.idxOf y.head.pred:Nat)),sl ih y.head.terms.length (Aw y.head.terms),sl idb y.body.length b]).obj d.nobj=[sl idn N.length (N.map str),sl idi l.length cs]:=by rw[Ai Ad2,Ae Ad2,a3]
   by_cases ai:i=n
   ·have ak:Ad8 (Oy n x.head.pred (y,i)=false):=by simp[Ad8,Oy,ai]
    have a6:((i:Int)==(n:Int))=true:=by simp[ai]
    clear ai aa hA;refine A4 Ak (fun _=>True) [] [0,1,2,3,4,5,6,7,8,9,10,11,12,13,14,15,16,17,18,19] 0 #[true,true,true,true,true,true,true,true,true,true,true,true,true,true,true,true,true,true,true,true] Ad5 (fun _ _ _ h=>by cases h.1) ?_;intro κ hκ;refine Z3 ?_;refine hκ.out _ ?_;clear hκ κ;exact A7 Ad5 ⟨rfl,by rw[ak.out];simp[upd, *],Ad3,Ad3,Ad3,Ad3,Ad3,Ad3,Ad3,rfl⟩
   ·have a6:((i:Int)==(n:Int))=false:=by simp;omega
    cases ad:y.out with
    |true=>
     have ak:Ad8 (Oy n x.head.pred (y,i)=false):=by simp[Ad8,Oy,O3,ad]
     rw[ad]at ax;clear ai aa hA ad;refine A4 Ak (fun _=>True) [] [0,1,2,3,4,5,6,7,8,9,10,11,12,13,14,15,16,17,18,19] 0 #[true,true,true,true,true,true,true,true,true,true,true,true,true,true,true,true,true,true,true,true] Ad5 (fun _ _ _ h=>by cases h.1) ?_;intro κ hκ;refine Z3 ?_;refine hκ.out _ ?_;clear hκ κ;exact A7 Ad5 ⟨rfl,by rw[ak.out];simp[upd, *],Ad3,Ad3,Ad3,Ad3,Ad3,Ad3,Ad3,rfl⟩
    |false=>
     have ak:Ad8 ((!Oy n x.head.pred (y,i))=!decide (y.head.pred=x.head.pred)):=by simp[Ad8,Oy,O3,ad,ai]
     rw[ad]at ax;clear ai aa hA ad;refine A4 Ak (fun _=>True) [] [0,1,2,3,4,5,6,7,8,9,10,11,12,13,14,15,16,17,18,19] 0 #[true,true,true,true,true,true,true,true,true,true,true,true,true,true,true,true,true,true,true,true] Ad5 (fun _ _ _ h=>by cases h.1) ?_;intro κ hκ;refine Z3 ?_;refine hκ.out _ ?_;clear hκ κ;exact A7 Ad5 ⟨rfl,by rw[ak.out];simp[upd, *],Ad3,Ad3,Ad3,Ad3,Ad3,Ad3,Ad3,rfl⟩
  rintro e s' d'' ⟨rfl,g35,g1,g2,g5,g7,g9,g10,g11,rfl⟩;clear h1 h2 h5 h9 bb ba hne;cases ae:Oy n x.head.pred (y,i)with
  |false=>
   rw[ae]at g35 aa;have HA:Ad8 ((Lp (l.take (i+1)) n x.head.pred=[]/\v= -1)\/∃y a,Lp (l.take (i+1)) n x.head.pred=[y]/\Ln y=true/\y.body=[a]/\v=((N.idxOf a.pred:Nat):Int)):=by
    rw[Ad8,aa];simpa using hA.out
   clear aa ab hA ae ah;refine F8 g35 ?_
   repeat' (first|refine Z1 ?_|(refine Z8 ?_;intro κ hκ)|(refine Z4 ?_;clear hκ κ)|(refine Z2 ?_ ?_<;>intro h ac<;>try exact Xp)|refine Z3 ?_|exact⟨⟩|(apply hκ.out;clear hκ κ))
   refine⟨l.length-(i+1),Ad2,i+1,v,?_⟩
   ((repeat' with_reducible refine And.intro ?_ ?_)<;>first|exact Xq|exact (HA)|exact Xs)
  |true=>
   rw[ae]at g35 aa;simp only[if_true]at aa;have ad:y.out=false:=by
    unfold Oy O3 at ae;simp only[Abj,Adl]at ae;exact ae.2.1
   refine Du g35 ?_;by_cases hv:v= -1
   ·have au:Lp (l.take i) n x.head.pred=[]:=by
     rcases hA.out with⟨e,-⟩|⟨y,a,-,-,-,e⟩
     ·exact e
     ·omega
    rw[au,Aci]at aa;subst hv;cases hs:Ln y with
    |false=>
     have HF:Ad8 (J8 N l n x.head.pred= -1):=by
      obtain⟨r,e⟩:=ab;rw[aa]at e;unfold J8 E9 Ad8;rw[e];cases r with
      |nil=>simp[hs]
      |cons a r=>rfl
     rw[hs,ad]at ah;clear aa ab hA ae hs au
     repeat' (first|refine Z1 ?_|(refine Z8 ?_;intro κ hκ)|(refine Z4 ?_;clear hκ κ)|(refine Z2 ?_ ?_<;>intro h ac<;>try exact Xp)|(refine Z5 ?_;refine Xi (ah _) ?_;rintro _ _ ⟨rfl,an⟩;(have aj:=an.nobj))|refine Z3 ?_|exact⟨⟩|(apply hκ.out;clear hκ κ))
     exact⟨_,rfl,by rw[HF.out],Xs⟩
    |true=>
     obtain⟨a,ha⟩:=pX hs;have HA:Ad8 ((Lp (l.take (i+1)) n x.head.pred=[]/\((N.idxOf a.pred:Nat):Int)= -1)\/∃y b,Lp (l.take (i+1)) n x.head.pred=[y]/\Ln y=true/\y.body=[b]/\((N.idxOf a.pred:Nat):Int)=((N.idxOf b.pred:Nat):Int)):=.inr ⟨y,a,aa,hs,ha,rfl⟩;obtain⟨bm,ia,ra,a0⟩:=L4 am (show y.body[0]?=some a by rw[ha];rfl);simp only[Abz,List.drop_zero]at a0;have bn:0<y.body.length:=by rw[ha];simp
     rw[hs]at ah;rw[ad]at ah;subst a0;clear aa ab hA ae hs au ha am
     repeat' (first|refine Z1 ?_|(refine Z8 ?_;intro κ hκ)|(refine Z4 ?_;clear hκ κ)|(refine Z2 ?_ ?_<;>intro h ac<;>try exact Xp)|(refine Z5 ?_;refine Xi (ah _) ?_;rintro _ _ ⟨rfl,an⟩;(have aj:=an.nobj;have ao:=an.obj;simp only[Ab,Aa]at aj ao))|refine Z3 ?_|exact⟨⟩|(apply hκ.out;clear hκ κ))
     refine⟨l.length-(i+1),Ad2,i+1,((N.idxOf a.pred:Nat):Int),?_⟩
     ((repeat' with_reducible refine And.intro ?_ ?_)<;>first|exact Xq|exact (HA)|exact Xs)
   ·have bd:(v != -1)=true:=by simpa using hv
    have HF:Ad8 (J8 N l n x.head.pred= -1):=by
     rcases hA.out with⟨-,e⟩|⟨z,a,e,-,-,-⟩
     ·exact absurd e hv
     ·obtain⟨r,e2⟩:=ab;rw[aa,e]at e2;unfold J8 E9 Ad8;rw[e2];rfl
    clear aa ab hA ae hv ah
    repeat' (first|refine Z1 ?_|(refine Z8 ?_;intro κ hκ)|(refine Z4 ?_;clear hκ κ)|(refine Z2 ?_ ?_<;>intro h ac<;>try exact Xp)|refine Z3 ?_|exact⟨⟩|(apply hκ.out;clear hκ κ))
    exact⟨_,rfl,by rw[HF.out],Xs⟩
 ·have a5:i=l.length:=Ad2;subst a5;have HF:Ad8 (J8 N l n x.head.pred=v):=by
   have:=hA.out;rw[Abn]at this;unfold J8 E9 Ad8;rcases this with⟨e,rfl⟩|⟨y,a,e,e2,e3,rfl⟩
   ·rw[e]
   ·rw[e];simp only[e2,if_true,e3]
  clear hA
  repeat' (first|refine Z1 ?_|(refine Z8 ?_;intro κ hκ)|(refine Z4 ?_;clear hκ κ)|(refine Z2 ?_ ?_<;>intro h ac<;>try exact Xp)|refine Z3 ?_|exact⟨⟩|(apply hκ.out;clear hκ κ))
  first|exact⟨_,rfl,by rw[HF.out],hK⟩|exact⟨_,rfl,by rw[HF.out]⟩
theorem PS.down {lo lo' p:Nat}{d:St}{x:AV}{n:Nat}{pc:List AV}(h:PS lo d x n pc)(h1:lo'<=lo)(hp:p<lo)(c:List AV):PS lo' (d.put p c) x n pc:=by
 rcases h.put hp c with h|⟨o,cap,e1,e2,e3,e4,e5,e6,e7⟩
 ·exact .inl h
 ·exact .inr ⟨o,cap,e1,e2,e3,e4,e5,Ad2,e7⟩
theorem mV (r:D2)(c:List AV)(hc:Pj false r c)(hr:zS r)(d:St):
  ACalls Tryz.prog 93 [ag c] d fun x d'=>(∃ih X xs,x=ag [sc (.bool false),ic (Ec r).head.p,sl ih (Ec r).head.ts.length (Ac (Ec r).head.ts),X]/\PS d.nobj d' X (Ec r).body.length xs/\EL Od (Ec r).body xs)/\Keep d d':=by
 have a6:=fun d=>Ju r c hc hr d;have bb:=U3 hr;have bo:=hr.bl;obtain⟨ih,id,b,rfl,hb⟩:=hc;have bn:=EL.length Fv hb;unfold Ec;generalize Ev r=lo at a6 bb;have a7:=fun ido d=>Lg lo ido r.head.p ih r.head.ts Ad2 (by have:=hr.h3;omega) d;have a8:=fun ido (a:Lit) ia (ha:a∈r.body) d=>Lg lo ido a.a.p ia a.a.ts Ad2 (by have:=hr.b3 a ha;omega) d;refine Z9 39 [.cell 2 125] Tryz.func93 ?_
 repeat' (first|refine Z1 ?_|(refine Z8 ?_;intro κ hκ)|(refine Z4 ?_;clear hκ κ)|(refine Z2 ?_ ?_<;>intro h af<;>try exact Xp)|(refine Z6 ?_;intro idn dn av ak ai ad ah ac)|(refine Z5 ?_;refine Xi (a6 _) ?_;rintro _ _ ⟨⟨ido,rfl⟩,a0⟩;(have aj:=a0.obj;have ao:=a0.nobj;simp only[Aa]at ao))|refine Z3 ?_|exact⟨⟩|(apply hκ.out;clear hκ κ))
 rename_i d1;have au:d1.obj d.nobj=[sc (.bool false),ic r.head.p,sl ih r.head.ts.length (Ac r.head.ts),sl id r.body.length b]:=by
  rw[aj _ Ad6,Ae Ad6,Am]
 have ar:d1.obj (d.nobj+1)=[sc (.bool false),ic 0,nilS,nilS]:=by
  rw[aj _ Ad6,Bp (by rw[Aa];omega) (by rw[Aa];omega)]
 have ax:Keep d d1:=Xs;clear aj a0;refine Br (Q:=fun e s d'=>e= .normal/\∃o i2:Nat,s 1=ptr d.nobj 0/\s 2=ptr (d.nobj+1) 0/\s 3=sl ido lo.length (Ar lo)/\s 4=ptr o 0/\d.nobj+1<o/\o<d'.nobj/\d'.obj d.nobj=[sc (.bool false),ic r.head.p,sl ih r.head.ts.length (Ac r.head.ts),sl id r.body.length b]/\d'.obj (d.nobj+1)=[sc (.bool false),ic 0,nilS,nilS]/\d'.obj o=[sc (.bool false),ic r.head.p,sl i2 r.head.ts.length (Ac (r.head.ts.map (Ir lo))),nilS]/\Keep d d') ?_ ?_
 ·refine A4 Ak (fun _=>True) [8] [0,1,2,3,4] 4 #[true,true,true,true,true,false,false,false,false] Ad5 (fun _ _ _ h=>by cases h.1) ?_;intro κ hκ;refine Z3 ?_;refine hκ.out _ ?_;clear hκ κ;have a9:=fun d=>a7 ido d;refine Dy (rs:=[5,7]) Ad5 (by simp) ?_;intro i hi;simp only[Ace,Acx,Adz]at hi;rcases hi with rfl|rfl
  ·refine Aq ?_;intro κ hκ;refine Z3 ?_;refine ACalls.mono (a9 _) ?_;rintro _ d2 ⟨⟨i2,rfl⟩,ab⟩;have aa:=ab.obj;have an:=ab.nobj;refine Z3 ?_;refine hκ.out _ _ ⟨Ao ab,?_⟩;clear hκ κ;refine Dy (rs:=[6,7]) Ad5 (by simp) ?_;intro i hi;simp only[Ace,Acx,Adz]at hi;rcases hi with rfl|rfl
   ·refine Aq ?_;intro κ hκ;refine Z3 ?_;refine hκ.out _ _ ⟨Ao ab,?_⟩;clear hκ κ;refine Al (i:=7) Ad5 ?_;refine Aq ?_;intro κ hκ;refine Z3 ?_;refine hκ.out _ _ ⟨Ao (ab.new _),?_⟩;clear hκ κ;refine Al (i:=8) Ad5 ?_;refine Aq ?_;intro κ hκ;refine Z3 ?_;refine hκ.out _ _ ⟨Bo rfl,?_⟩;clear hκ κ;refine A7 Ad5 ⟨rfl,d2.nobj,i2,Ad4,Ad4,Ad4,Ad4,Ad2,Ad7,?_,?_,Aj,?_⟩
    ·rw[Ai Ad2,Ae Ad2,aa _ Ad2,au]
    ·rw[Ai Ad2,Ae Ad2,aa _ Ad2,ar]
    ·exact ((ax.trans ab).new _).put Ad2 _
   ·refine Aq ?_;intro κ hκ;refine Z3 ?_;refine hκ.out _ _ ⟨Ao (ab.new _),?_⟩;clear hκ κ;refine Al (i:=6) Ad5 ?_;refine Aq ?_;intro κ hκ;refine Z3 ?_;refine hκ.out _ _ ⟨Ao (ab.new _),?_⟩;clear hκ κ;refine Al (i:=8) Ad5 ?_;refine Aq ?_;intro κ hκ;refine Z3 ?_;refine hκ.out _ _ ⟨Bo rfl,?_⟩;clear hκ κ;refine A7 Ad5 ⟨rfl,d2.nobj,i2,Ad4,Ad4,Ad4,Ad4,Ad2,Ad7,?_,?_,Aj,?_⟩
    ·rw[Ai Ad2,Ae Ad2,aa _ Ad2,au]
    ·rw[Ai Ad2,Ae Ad2,aa _ Ad2,ar]
    ·exact ((ax.trans ab).new _).put Ad2 _
  ·refine Aq ?_;intro κ hκ;refine Z3 ?_;refine hκ.out _ _ ⟨Ao ((Keep.refl _).new _),?_⟩;clear hκ κ;refine Al (i:=5) Ad5 ?_;refine Aq ?_;intro κ hκ;refine Z3 ?_;refine ACalls.mono (a9 _) ?_;rintro _ d2 ⟨⟨i2,rfl⟩,ab⟩;have aa:=ab.obj;have an:=ab.nobj;simp only[Aa]at an;refine Z3 ?_;refine hκ.out _ _ ⟨Ao (((Keep.refl _).new _).trans ab),?_⟩;clear hκ κ;refine Al (i:=6) Ad5 ?_;refine Aq ?_;intro κ hκ;refine Z3 ?_;refine hκ.out _ _ ⟨Ao (((Keep.refl _).new _).trans ab),?_⟩;clear hκ κ;refine Al (i:=8) Ad5 ?_;refine Aq ?_;intro κ hκ;refine Z3 ?_;refine hκ.out _ _ ⟨Bo rfl,?_⟩;clear hκ κ;refine A7 Ad5 ⟨rfl,d1.nobj,i2,Ad4,Ad4,Ad4,Ad4,Ad2,Ad7,?_,?_,Aj,?_⟩
   ·rw[Ai Ad2,aa _ (by rw[Aa];omega),Ae Ad2,au]
   ·rw[Ai Ad2,aa _ (by rw[Aa];omega),Ae Ad2,ar]
   ·exact ((ax.new _).trans ab).put Ad2 _
 ·rintro e s d2 ⟨rfl,o,i2,h1,h2,h3,h4,bm,bh,ba,ay,ob,hK⟩;have a3:=hK.nobj;clear ax au ar ao a7
  repeat' (first|refine Z1 ?_|(refine Z8 ?_;intro κ hκ)|(refine Z4 ?_;clear hκ κ)|(refine Z2 ?_ ?_<;>intro h af<;>try exact Xp)|(refine Z6 ?_;intro idn dn av ak ai ad ah ac)|refine Z3 ?_|exact⟨⟩|(apply hκ.out;clear hκ κ))
  refine Ad (fun m s d'=>∃(k:Nat) (X:AV) (xs:List AV),m=r.body.length-k/\k<=r.body.length/\s 2=ptr (d.nobj+1) 0/\s 3=sl ido lo.length (Ar lo)/\s 4=ptr o 0/\s 18=sl id r.body.length b/\s 19=ic r.body.length/\s 20=ic k/\Keep d d'/\d2.nobj<=d'.nobj/\d'.obj (d.nobj+1)=[sc (.bool false),ic 0,nilS,nilS]/\d'.obj o=[sc (.bool false),ic r.head.p,sl i2 r.head.ts.length (Ac (r.head.ts.map (Ir lo))),X]/\PS d2.nobj d' X k xs/\Ad8 (EL Od ((r.body.take k).map (xM lo)) xs)) r.body.length
   ⟨0,nilS,[],Ad2,Ad2,by simp[upd,h2],by simp[upd,h3],by simp[upd,h4],Ad4,Ad4,rfl,hK,Abb _,ay,ob,.inl ⟨rfl,rfl,rfl⟩,rfl⟩ ?_
  clear h1 h2 h3 h4 ba ay ob hK a3;rintro m s d' ⟨k,X,xs,rfl,hk,h2,h3,h4,br,bq,bp,hK,bi,ay,ob,hX,hE⟩;have a3:=hK.nobj;have be:=hX.flat;by_cases a4:k<r.body.length
  ·have ae:=List.getElem?_eq_getElem a4;obtain⟨ia,rr,hd⟩:=Gf hb ae;have hR:=fun d=>a8 ido r.body[k] ia (Acz a4) d;generalize r.body[k]=a at hd ae hR;have HX:Ad8 (∀i4,EL Od ((r.body.take (k+1)).map (xM lo)) (xs++[sc (.bool a.neg),ic a.a.p,sl i4 a.a.ts.length (Ac (a.a.ts.map (Ir lo)))])):=fun i4=>by
    rw[Abq,ae,Ac2,Abt];exact EL.append hE.out (EL.single ⟨i4,by simp[xM,fP]⟩)
   clear ae hE a8
   repeat' (first|refine Z1 ?_|(refine Z8 ?_;intro κ hκ)|(refine Z4 ?_;clear hκ κ)|(refine Z2 ?_ ?_<;>intro h af<;>try exact Xp)|(refine Z6 ?_;intro idn dn av ak ai ad ah ac)|(refine Z5 ?_;refine Xi (hR _) ?_;rintro _ _ ⟨⟨i4,rfl⟩,aw⟩;(have am:=aw.obj;have az:=aw.nobj;simp only[Aa,Ab]at az am))|refine Z3 ?_|exact⟨⟩|(apply hκ.out;clear hκ κ))
   rename_i d4;have bg:=((hK.new [sc (.bool false),ic 0,nilS]).put hK.nobj _).trans aw;refine lD (lo:=d2.nobj) (σ0:=d) (by first|exact D5) (by rfl) (by rfl) (by rfl) Ad2 Ad2 (by simp only[Ah,Ab,Aa];omega) Ad2 (((bg.new _).put Ad2 _).lay 1) (hX.keep ((((((Keep.refl _).new _).put (Abb _) _).trans aw).new _).put Ad2 _|>.lay 1)) ?_;intro X' dn a5 bc ap ak;simp only[Ah,Ab,Aa]at bc;have eob:∀p,p<d2.nobj->dn.obj p=d'.obj p:=fun p hp=>by rw[ap p hp,As,Ai Ad2,Ae Ad2,am _ Ad2,Ai Ad2,Ae Ad2]
   obtain⟨og,cg,rfl,-⟩:=a5.gx Ad2;clear ap hX;refine Z3 ?_
   repeat' (first|refine Z1 ?_|(refine Z8 ?_;intro κ hκ)|(refine Z4 ?_;clear hκ κ)|(refine Z2 ?_ ?_<;>intro h af<;>try exact Xp)|(refine Z6 ?_;intro idn dn av ak ai ad ah ac)|refine Z3 ?_|exact⟨⟩|(apply hκ.out;clear hκ κ))
   refine⟨r.body.length-(k+1),Ad2,k+1,gx og (k+1) cg,xs++[sc (.bool a.neg),ic a.a.p,sl i4 a.a.ts.length (Ac (a.a.ts.map (Ir lo)))],?_⟩
   ((repeat' with_reducible refine And.intro ?_ ?_)<;>first|exact Xq|exact (ak.put Ad2 _)|exact (a5.put Ad2 _)|exact (HX.out i4)|exact Xs)
  ·have bd:k=r.body.length:=Ad2;subst bd;rw[Abn]at hE;have HP:Ad8 (PS d.nobj ((d'.put (d.nobj+1) [sc (.bool false),ic r.head.p,sl i2 r.head.ts.length (Ac (r.head.ts.map (Ir lo))),X])) X r.body.length xs):=hX.down Ad2 Ad2 _;have bf:X=nilS\/∃oc cc,X=gx oc r.body.length cc:=by
    rcases hX with⟨h,-⟩|⟨oc,cc,h,-⟩
    ·exact .inl h
    ·exact .inr ⟨oc,cc,h⟩
   clear hX be;rcases bf with rfl|⟨oc,cc,rfl⟩
   all_goals
    repeat' (first|refine Z1 ?_|(refine Z8 ?_;intro κ hκ)|(refine Z4 ?_;clear hκ κ)|(refine Z2 ?_ ?_<;>intro h af<;>try exact Xp)|(refine Z6 ?_;intro idn dn av ak ai ad ah ac)|refine Z3 ?_|exact⟨⟩|(apply hκ.out;clear hκ κ))
    exact⟨_,rfl,⟨i2,_,xs,by simp[fP];rfl,by simpa using HP.out,by simpa using hE.out⟩,hK.put Ad2 _⟩
end Go.Proofs.YtmoeoppbmhfbpabGreatDoorH
