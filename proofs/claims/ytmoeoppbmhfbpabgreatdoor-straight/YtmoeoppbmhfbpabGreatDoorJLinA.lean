import Derived.Test.YtmoeoppbmhfbpabGreatDoorJFolD
import Derived.Test.YtmoeoppbmhfbpabGreatDoorJPrtH
import Derived.Test.YtmoeoppbmhfbpabGreatDoorJUnfF
import Derived.Test.YtmoeoppbmhfbpabGreatDoorJEngW
set_option maxHeartbeats 64000000
set_option maxRecDepth 100000
set_option linter.all false
namespace Go.Proofs.YtmoeoppbmhfbpabGreatDoorJ
open Go.Abs
def vQ (p:Tx):Tx:=p++[40,65,44,66,41,58,45]++p++[40,65,44,67,41,44]++p++[40,67,44,66,41,46]
def pY (p e:Tx):Tx:=p++[40,65,44,66,41,58,45]++e++[40,65,44,66,41,46]
def Lo (x:RItem):Bool:=Cz x==vQ x.head.pred
def Lm (x:RItem):Bool:=match x.body with
 |[a]=>!decide (a.pred=x.head.pred)&&(Cz x==pY x.head.pred a.pred)
 |_=>false
theorem gB {N:List Tx}{p:Tx}(h:p∈N):(N.map str).drop (N.idxOf p)=str p::(N.map str).drop (N.idxOf p+1):=by
 have aa:=Ac4 h;have:=Fb aa;rwa[Ac3 aa]at this
theorem T5 (N:List Tx)(l:List RItem)(cs:List AV)(idn idi:Nat)(hB:Bk N l cs)(x:RItem)(c:List AV)(hx:PI N x c)(hw:WI N x)(d:St):ACalls Tryz.prog 180 [Bs N idn l idi cs,ag c] d fun r d'=>r=sc (.bool (Lo x))/\Keep d d':=by
 have hT:=fun d=>It N l cs idn idi hB x c hx hw d;have hN:=hB.nm;have hpl:=hw.short.1.1;obtain⟨hm,ih,id,b,hb,rfl⟩:=hx;have ab:=Ac4 hm;have ac:=gB hm;have h1:({data:=#[40,65,44,66,41,58,45]}:ByteArray)=bs [40,65,44,66,41,58,45]:=rfl;have h2:({data:=#[40,65,44,67,41,44]}:ByteArray)=bs [40,65,44,67,41,44]:=rfl;have h3:({data:=#[40,67,44,66,41,46]}:ByteArray)=bs [40,67,44,66,41,46]:=rfl;have HA:Aec (∀t,t=vQ x.head.pred->(Cz x==t)=Lo x):=fun t e=>by rw[e];rfl
 generalize N.idxOf x.head.pred=ix at ab ac hT;generalize Cz x=W at hT HA;refine Z9 25 [.tmp 4] Tryz.func180 ?_
 repeat' (first|refine Z1 ?_|(refine Z8 ?_;intro κ hκ)|(refine Z4 ?_;clear hκ κ)|(refine Z2 ?_ ?_<;>intro h ad<;>try exact Xp)|(refine Z5 ?_;refine Xi (hT _) ?_;rintro _ _ ⟨rfl,ae⟩;(have aa:=ae.nobj))|refine Z7 ?_|exact⟨⟩|(apply hκ.out;clear hκ κ))
 exact⟨_,rfl,by rw[<-HA.out _ rfl];simp[vQ],Xs⟩
theorem rH {N:List Tx}{p q:Tx}(hp:p∈N)(hq:q∈N):(((N.idxOf p:Nat):Int)==((N.idxOf q:Nat):Int))=decide (p=q):=by
 by_cases h:p=q
 ·subst h;simp
 ·have:N.idxOf p≠N.idxOf q:=fun e=>h (by
   have h1:=Ac3 (Ac4 hp);have h2:=Ac3 (Ac4 hq)
   rw[<-h1,<-h2];congr 1)
  simp[h];omega
theorem cQ (N:List Tx)(l:List RItem)(cs:List AV)(idn idi:Nat)(hB:Bk N l cs)(x:RItem)(c:List AV)(hx:PI N x c)(hw:WI N x)(d:St):ACalls Tryz.prog 213 [Bs N idn l idi cs,ag c] d fun r d'=>r=sc (.bool (Lm x))/\Keep d d':=by
 have hT:=fun d=>It N l cs idn idi hB x c hx hw d;have hN:=hB.nm;have hpl:=hw.short.1.1;have ae:=hw.short.2;have av:=hw.body;obtain⟨hm,ih,id,b,hb,rfl⟩:=hx;have ah:=Ac4 hm;have ai:=gB hm;have ao:=EL.length Eb hb;have h1:({data:=#[40,65,44,66,41,58,45]}:ByteArray)=bs [40,65,44,66,41,58,45]:=rfl;have h2:({data:=#[40,65,44,66,41,46]}:ByteArray)=bs [40,65,44,66,41,46]:=rfl;by_cases ab:x.body.length=1
 ·obtain⟨a,ad⟩:=List.length_eq_one_iff.1 ab;have ac:x.body[0]?=some a:=by rw[ad];rfl
  obtain⟨af,ia,ra,aj⟩:=N5 hb ac;have aw:=(ae a (by rw[ad];simp)).1;have am:=Ac4 af;have an:=gB af;have hq:=rH af hm;have ap:((x.body.length:Int) !=1)=false:=by rw[ab];rfl
  simp only[Ab3,List.drop_zero]at aj;subst aj;have HS:Aec (Lm x=(!decide (a.pred=x.head.pred)&&(Cz x==pY x.head.pred a.pred))):=by rw[Aec,Lm,ad]
  have ax:0<x.body.length:=Ad6;generalize N.idxOf x.head.pred=ix at ah ai hT hq;generalize N.idxOf a.pred=jx at am an hq hT ao;generalize Cz x=W at hT HS;generalize x.body.length=n at*
  clear ab ac ad ae hb;refine Z9 49 [.tmp 4] Tryz.func213 ?_
  repeat' (first|refine Z1 ?_|(refine Z8 ?_;intro κ hκ)|(refine Z4 ?_;clear hκ κ)|(refine Z2 ?_ ?_<;>intro h aa<;>try exact Xp)|refine Z7 ?_|exact⟨⟩|(apply hκ.out;clear hκ κ))
  refine Bq (Q:=fun e s' d''=>e= .normal/\s' 22=sc (.bool (decide (a.pred=x.head.pred)))/\s' 2=ptr d.nobj 0/\s' 3=ptr (d.nobj+1) 0/\d''=(d.new [sl idn N.length (N.map str),sl idi l.length cs]).new [sc (.bool x.out),sc (.int .i64 ix),sl ih x.head.terms.length (Av x.head.terms),sl id n (sc (.bool a.nt)::sc (.int .i64 jx)::sl ia a.terms.length (Av a.terms)::ra)]) ?_ ?_
  ·refine A3 Ah (fun _=>True) [] [0,1,2,3,4,5,6,7,8,9,10,11,12,13,14,15] 0 #[true,true,true,true,true,true,true,true,true,true,true,true,true,true,true,true] Ad9 (fun _ _ _ h=>by cases h.1) ?_;intro κ hκ;refine Z7 ?_;refine hκ.out _ ?_;clear hκ κ;exact A7 Ad9 ⟨rfl,Ad7,Ad7,Ad7,rfl⟩
  rintro e s' d'' ⟨rfl,g22,g2,g3,rfl⟩;cases hp:decide (a.pred=x.head.pred)with
  |true=>
   have HF:Aec (Lm x=false):=by rw[Aec,HS.out,hp];rfl
   rw[hp]at g22;clear HS hp;refine E9 g22 ?_
   repeat' (first|refine Z1 ?_|(refine Z8 ?_;intro κ hκ)|(refine Z4 ?_;clear hκ κ)|(refine Z2 ?_ ?_<;>intro h aa<;>try exact Xp)|refine Z7 ?_|exact⟨⟩|(apply hκ.out;clear hκ κ))
   exact⟨_,rfl,by rw[HF.out],Xs⟩
  |false=>
   have HF:Aec (∀t,t=pY x.head.pred a.pred->(W==t)=Lm x):=fun t e=>by rw[e,HS.out,hp];rfl
   rw[hp]at g22;clear HS hp hq;refine D9 g22 ?_
   repeat' (first|refine Z1 ?_|(refine Z8 ?_;intro κ hκ)|(refine Z4 ?_;clear hκ κ)|(refine Z2 ?_ ?_<;>intro h aa<;>try exact Xp)|refine Z7 ?_|exact⟨⟩|(apply hκ.out;clear hκ κ))
   refine Bq (Q:=fun e s' d''=>e= .normal/\s' 5=str x.head.pred/\s' 6=str a.pred/\s' 2=ptr d.nobj 0/\s' 3=ptr (d.nobj+1) 0/\d''=(d.new [sl idn N.length (N.map str),sl idi l.length cs]).new [sc (.bool x.out),sc (.int .i64 ix),sl ih x.head.terms.length (Av x.head.terms),sl id n (sc (.bool a.nt)::sc (.int .i64 jx)::sl ia a.terms.length (Av a.terms)::ra)]) ?_ ?_
   ·refine A3 Ah (fun _=>True) [] [0,1,2,3,4,5,6,7,8,9,10] 0 #[true,true,true,true,true,true,true,true,true,true,true] Ad9 (fun _ _ _ h=>by cases h.1) ?_;intro κ hκ;refine Z7 ?_;refine hκ.out _ ?_;clear hκ κ;exact A7 Ad9 ⟨rfl,Ad7,Ad7,Ad7,Ad7,rfl⟩
   rintro e s2 d2 ⟨rfl,k5,k6,k2,k3,rfl⟩
   repeat' (first|refine Z1 ?_|(refine Z8 ?_;intro κ hκ)|(refine Z4 ?_;clear hκ κ)|(refine Z2 ?_ ?_<;>intro h aa<;>try exact Xp)|(refine Z5 ?_;refine Xi (hT _) ?_;rintro _ _ ⟨rfl,au⟩;(have ak:=au.nobj))|refine Z7 ?_|exact⟨⟩|(apply hκ.out;clear hκ κ))
   exact⟨_,rfl,by rw[<-HF.out _ rfl];simp[pY],Xs⟩
 ·have ap:((x.body.length:Int) !=1)=true:=by simp;omega
  have HS:Aec (Lm x=false):=by
   unfold Lm Aec;split
   ·rename_i a e;rw[e]at ab;exact absurd rfl ab
   ·rfl
  generalize N.idxOf x.head.pred=ix at ah ai hT;generalize x.body.length=n at*
  clear ab ae hb;refine Z9 49 [.tmp 4] Tryz.func213 ?_
  repeat' (first|refine Z1 ?_|(refine Z8 ?_;intro κ hκ)|(refine Z4 ?_;clear hκ κ)|(refine Z2 ?_ ?_<;>intro h aa<;>try exact Xp)|refine Z7 ?_|exact⟨⟩|(apply hκ.out;clear hκ κ))
  refine Bq (Q:=fun e s' d''=>e= .normal/\s' 22=sc (.bool true)/\s' 2=ptr d.nobj 0/\s' 3=ptr (d.nobj+1) 0/\d''=(d.new [sl idn N.length (N.map str),sl idi l.length cs]).new [sc (.bool x.out),sc (.int .i64 ix),sl ih x.head.terms.length (Av x.head.terms),sl id n b]) ?_ ?_
  ·refine A3 Ah (fun _=>True) [] [0,1,2,3,4,5,6,7,8,9,10,11,12,13,14,15] 0 #[true,true,true,true,true,true,true,true,true,true,true,true,true,true,true,true] Ad9 (fun _ _ _ h=>by cases h.1) ?_;intro κ hκ;refine Z7 ?_;refine hκ.out _ ?_;clear hκ κ;exact A7 Ad9 ⟨rfl,Ad7,Ad7,Ad7,rfl⟩
  rintro e s' d'' ⟨rfl,g22,g2,g3,rfl⟩;refine E9 g22 ?_
  repeat' (first|refine Z1 ?_|(refine Z8 ?_;intro κ hκ)|(refine Z4 ?_;clear hκ κ)|(refine Z2 ?_ ?_<;>intro h aa<;>try exact Xp)|refine Z7 ?_|exact⟨⟩|(apply hκ.out;clear hκ κ))
  exact⟨_,rfl,by rw[HS.out],Xs⟩
def Oq (n:Nat)(q:Tx)(p:RItem×Nat):Bool:=!decide (p.2=n)&&Ks q p.1
def L0 (l:List RItem)(n:Nat)(q:Tx):List RItem:=(l.zipIdx.filter (Oq n q)).map (·.1)
theorem mU {l:List RItem}{n:Nat}{q:Tx}{i:Nat}{y:RItem}(h:l[i]?=some y):L0 (l.take (i+1)) n q=L0 (l.take i) n q++if Oq n q (y,i)=true then [y]else []:=by
 have hi:=(List.getElem?_eq_some_iff.1 h).1;unfold L0;rw[Abv,h,Ac5,List.zipIdx_append,Adp,Abx,Ab7,Aca Ad6];congr 1;rw[show ([y]:List RItem).zipIdx (0+i)=[(y,i)]by simp,Adh];split<;>rfl
theorem qS (l:List RItem)(n:Nat)(q:Tx)(i:Nat):∃r,L0 l n q=L0 (l.take i) n q++r:=by
 refine⟨(((l.drop i).zipIdx (l.take i).length).filter (Oq n q)).map (·.1),?_⟩
 conv=>lhs;rw[<-Adl i l]
 unfold L0;rw[List.zipIdx_append,Adp,Abx,Ab5]
def Hu (l:List RItem)(n:Nat)(q:Tx):Option Tx:=match L0 l n q with
 |[y]=>if Lm y=true then (match y.body with|[a]=>some a.pred|_=>none)else none
 |_=>none
def Kf (N:List Tx)(l:List RItem)(n:Nat)(q:Tx):Int:=match Hu l n q with
 |some e=>(N.idxOf e:Nat)
 |none=> -1
theorem pX {y:RItem}(h:Lm y=true):∃a,y.body=[a]:=by
 unfold Lm at h;split at h
 ·rename_i a e;exact⟨a,e⟩
 ·cases h
theorem P4 (N:List Tx)(ar:Tx->Nat)(l:List RItem)(cs:List AV)(idn idi n:Nat)(x:RItem)(hR:RtL N ar l)(hE:EL (PI N) l cs)(hx:l[n]?=some x)(d:St):ACalls Tryz.prog 181 [Bs N idn l idi cs,sc (.int .i64 n)] d fun r d'=>r=sc (.int .i64 (Kf N l n x.head.pred))/\Keep d d':=by
 have bi:=EL.length Df hE;have av:=hR.gl.len;have hN:=hR.gl.nm;have ba:=fun y c (hy:PI N y c) (hm:y∈l) d=>cQ N l cs idn idi ((hR.gl.bkm hE).bk av) y c hy (hR.wi y hm) d;have bg:n<l.length:=(List.getElem?_eq_some_iff.1 hx).1;obtain⟨a4,ihx,idx,bx,rx,bl,bh⟩:=Fi hE hx;have HB:Aec (∀y∈l,y.body.length<=5/\y.head.pred∈N/\∀a∈y.body,y.out=false->a.pred∈N):=fun y hy=>⟨hR.b5 y hy,(hR.gl.msr y hy).mem,fun a ha ho=>((hR.ru y hy ho).body a ha).mem⟩;clear hR;refine Z9 52 [.tmp 4] Tryz.func181 ?_
 repeat' (first|refine Z1 ?_|(refine Z8 ?_;intro κ hκ)|(refine Z4 ?_;clear hκ κ)|(refine Z2 ?_ ?_<;>intro h ac<;>try exact Xp)|refine Z3 ?_|exact⟨⟩|(apply hκ.out;clear hκ κ))
 refine Ad (fun m s d'=>∃(i:Nat) (v:Int),m=l.length-i/\i<=l.length/\s 1=ic n/\s 2=ptr d.nobj 0/\s 5=ic v/\s 9=sl idi l.length cs/\s 10=ic l.length/\s 11=ic i/\Keep d d'/\d.nobj<d'.nobj/\d'.obj d.nobj=[sl idn N.length (N.map str),sl idi l.length cs]/\Aec ((L0 (l.take i) n x.head.pred=[]/\v= -1)\/∃y a,L0 (l.take i) n x.head.pred=[y]/\Lm y=true/\y.body=[a]/\v=((N.idxOf a.pred:Nat):Int))) l.length
  ⟨0,-1,Ad6,Ad6,by simp[upd,initS],Ad8,Ad8,Ad8,Ad8,Ad8,Xs,Aea,Ao,.inl ⟨rfl,rfl⟩⟩ ?_
 rintro m s d' ⟨i,v,rfl,hi,h1,h2,h5,h9,bc,bb,hK,bf,a3,hA⟩;have bd:=hK.nobj;by_cases az:i<l.length
 ·have af:=List.getElem?_eq_getElem az;have ap:=Ac2 az;obtain⟨a9,aw,a8⟩:=HB.out l[i] ap;obtain⟨ay,ih,idb,b,r,am,hd⟩:=Fi hE af;have ah:=fun d=>ba l[i] _ (PI.of (ih:=ih) (id:=idb) ay am) ap d;have aa:=mU (n:=n) (q:=x.head.pred) af;have ab:=qS l n x.head.pred (i+1);generalize l[i]=y at af ap a9 aw a8 ay am hd ah aa ab;have a5:=kV aw a4;have bm:=EL.length Eb am;clear af
  repeat' (first|refine Z1 ?_|(refine Z8 ?_;intro κ hκ)|(refine Z4 ?_;clear hκ κ)|(refine Z2 ?_ ?_<;>intro h ac<;>try exact Xp)|refine Z3 ?_|exact⟨⟩|(apply hκ.out;clear hκ κ))
  refine Bq (Q:=fun e s' d''=>e= .normal/\s' 35=sc (.bool (!Oq n x.head.pred (y,i)))/\s' 1=ic n/\s' 2=ptr d.nobj 0/\s' 5=ic v/\s' 7=ptr d'.nobj 0/\s' 9=sl idi l.length cs/\s' 10=ic l.length/\s' 11=ic i/\d''=(d'.new [sc (.bool false),ic 0,nilS,nilS]).put d'.nobj [sc (.bool y.out),sc (.int .i64 (N.idxOf y.head.pred:Nat)),sl ih y.head.terms.length (Av y.head.terms),sl idb y.body.length b]) ?_ ?_
  ·have ax:((d'.new [sc (.bool false),ic 0,nilS,nilS]).put d'.nobj [sc (.bool y.out),sc (.int .i64 (N.idxOf y.head.pred:Nat)),sl ih y.head.terms.length (Av y.head.terms),sl idb y.body.length b]).obj d.nobj=[sl idn N.length (N.map str),sl idi l.length cs]:=by rw[Aj Ad6,Ae Ad6,a3]
   by_cases ai:i=n
   ·have ak:Aec (Oq n x.head.pred (y,i)=false):=by simp[Aec,Oq,ai]
    have a7:((i:Int)==(n:Int))=true:=by simp[ai]
    clear ai aa hA;refine A3 Ah (fun _=>True) [] [0,1,2,3,4,5,6,7,8,9,10,11,12,13,14,15,16,17,18,19] 0 #[true,true,true,true,true,true,true,true,true,true,true,true,true,true,true,true,true,true,true,true] Ad9 (fun _ _ _ h=>by cases h.1) ?_;intro κ hκ;refine Z3 ?_;refine hκ.out _ ?_;clear hκ κ;exact A7 Ad9 ⟨rfl,by rw[ak.out];simp[upd, *],Ad7,Ad7,Ad7,Ad7,Ad7,Ad7,Ad7,rfl⟩
   ·have a7:((i:Int)==(n:Int))=false:=by simp;omega
    cases ad:y.out with
    |true=>
     have ak:Aec (Oq n x.head.pred (y,i)=false):=by simp[Aec,Oq,Ks,ad]
     rw[ad]at ax;clear ai aa hA ad;refine A3 Ah (fun _=>True) [] [0,1,2,3,4,5,6,7,8,9,10,11,12,13,14,15,16,17,18,19] 0 #[true,true,true,true,true,true,true,true,true,true,true,true,true,true,true,true,true,true,true,true] Ad9 (fun _ _ _ h=>by cases h.1) ?_;intro κ hκ;refine Z3 ?_;refine hκ.out _ ?_;clear hκ κ;exact A7 Ad9 ⟨rfl,by rw[ak.out];simp[upd, *],Ad7,Ad7,Ad7,Ad7,Ad7,Ad7,Ad7,rfl⟩
    |false=>
     have ak:Aec ((!Oq n x.head.pred (y,i))=!decide (y.head.pred=x.head.pred)):=by simp[Aec,Oq,Ks,ad,ai]
     rw[ad]at ax;clear ai aa hA ad;refine A3 Ah (fun _=>True) [] [0,1,2,3,4,5,6,7,8,9,10,11,12,13,14,15,16,17,18,19] 0 #[true,true,true,true,true,true,true,true,true,true,true,true,true,true,true,true,true,true,true,true] Ad9 (fun _ _ _ h=>by cases h.1) ?_;intro κ hκ;refine Z3 ?_;refine hκ.out _ ?_;clear hκ κ;exact A7 Ad9 ⟨rfl,by rw[ak.out];simp[upd, *],Ad7,Ad7,Ad7,Ad7,Ad7,Ad7,Ad7,rfl⟩
  rintro e s' d'' ⟨rfl,g35,g1,g2,g5,g7,g9,g10,g11,rfl⟩;clear h1 h2 h5 h9 bc bb a5;cases ae:Oq n x.head.pred (y,i)with
  |false=>
   rw[ae]at g35 aa;have HA:Aec ((L0 (l.take (i+1)) n x.head.pred=[]/\v= -1)\/∃y a,L0 (l.take (i+1)) n x.head.pred=[y]/\Lm y=true/\y.body=[a]/\v=((N.idxOf a.pred:Nat):Int)):=by
    rw[Aec,aa];simpa using hA.out
   clear aa ab hA ae ah;refine E9 g35 ?_
   repeat' (first|refine Z1 ?_|(refine Z8 ?_;intro κ hκ)|(refine Z4 ?_;clear hκ κ)|(refine Z2 ?_ ?_<;>intro h ac<;>try exact Xp)|refine Z3 ?_|exact⟨⟩|(apply hκ.out;clear hκ κ))
   refine⟨l.length-(i+1),Ad6,i+1,v,?_⟩
   ((repeat' with_reducible refine And.intro ?_ ?_)<;>first|exact Xq|exact (HA)|exact Xs)
  |true=>
   rw[ae]at g35 aa;simp only[if_true]at aa;have ad:y.out=false:=by
    unfold Oq Ks at ae;simp only[Abo,Adw]at ae;exact ae.2.1
   refine D9 g35 ?_;by_cases hv:v= -1
   ·have au:L0 (l.take i) n x.head.pred=[]:=by
     rcases hA.out with⟨e,-⟩|⟨y,a,-,-,-,e⟩
     ·exact e
     ·omega
    rw[au,Acm]at aa;subst hv;cases hs:Lm y with
    |false=>
     have HF:Aec (Kf N l n x.head.pred= -1):=by
      obtain⟨r,e⟩:=ab;rw[aa]at e;unfold Kf Hu Aec;rw[e];cases r with
      |nil=>simp[hs]
      |cons a r=>rfl
     rw[hs,ad]at ah;clear aa ab hA ae hs au
     repeat' (first|refine Z1 ?_|(refine Z8 ?_;intro κ hκ)|(refine Z4 ?_;clear hκ κ)|(refine Z2 ?_ ?_<;>intro h ac<;>try exact Xp)|(refine Z5 ?_;refine Xi (ah _) ?_;rintro _ _ ⟨rfl,an⟩;(have aj:=an.nobj))|refine Z3 ?_|exact⟨⟩|(apply hκ.out;clear hκ κ))
     exact⟨_,rfl,by rw[HF.out],Xs⟩
    |true=>
     obtain⟨a,ha⟩:=pX hs;have HA:Aec ((L0 (l.take (i+1)) n x.head.pred=[]/\((N.idxOf a.pred:Nat):Int)= -1)\/∃y b,L0 (l.take (i+1)) n x.head.pred=[y]/\Lm y=true/\y.body=[b]/\((N.idxOf a.pred:Nat):Int)=((N.idxOf b.pred:Nat):Int)):=.inr ⟨y,a,aa,hs,ha,rfl⟩;obtain⟨bn,ia,ra,a0⟩:=N5 am (show y.body[0]?=some a by rw[ha];rfl);simp only[Ab3,List.drop_zero]at a0;have bo:0<y.body.length:=by rw[ha];simp
     rw[hs]at ah;rw[ad]at ah;subst a0;clear aa ab hA ae hs au ha am
     repeat' (first|refine Z1 ?_|(refine Z8 ?_;intro κ hκ)|(refine Z4 ?_;clear hκ κ)|(refine Z2 ?_ ?_<;>intro h ac<;>try exact Xp)|(refine Z5 ?_;refine Xi (ah _) ?_;rintro _ _ ⟨rfl,an⟩;(have aj:=an.nobj;have ao:=an.obj;simp only[Ab,Aa]at aj ao))|refine Z3 ?_|exact⟨⟩|(apply hκ.out;clear hκ κ))
     refine⟨l.length-(i+1),Ad6,i+1,((N.idxOf a.pred:Nat):Int),?_⟩
     ((repeat' with_reducible refine And.intro ?_ ?_)<;>first|exact Xq|exact (HA)|exact Xs)
   ·have be:(v != -1)=true:=by simpa using hv
    have HF:Aec (Kf N l n x.head.pred= -1):=by
     rcases hA.out with⟨-,e⟩|⟨z,a,e,-,-,-⟩
     ·exact absurd e hv
     ·obtain⟨r,e2⟩:=ab;rw[aa,e]at e2;unfold Kf Hu Aec;rw[e2];rfl
    clear aa ab hA ae hv ah
    repeat' (first|refine Z1 ?_|(refine Z8 ?_;intro κ hκ)|(refine Z4 ?_;clear hκ κ)|(refine Z2 ?_ ?_<;>intro h ac<;>try exact Xp)|refine Z3 ?_|exact⟨⟩|(apply hκ.out;clear hκ κ))
    exact⟨_,rfl,by rw[HF.out],Xs⟩
 ·have a6:i=l.length:=Ad6;subst a6;have HF:Aec (Kf N l n x.head.pred=v):=by
   have:=hA.out;rw[Abt]at this;unfold Kf Hu Aec;rcases this with⟨e,rfl⟩|⟨y,a,e,e2,e3,rfl⟩
   ·rw[e]
   ·rw[e];simp only[e2,if_true,e3]
  clear hA
  repeat' (first|refine Z1 ?_|(refine Z8 ?_;intro κ hκ)|(refine Z4 ?_;clear hκ κ)|(refine Z2 ?_ ?_<;>intro h ac<;>try exact Xp)|refine Z3 ?_|exact⟨⟩|(apply hκ.out;clear hκ κ))
  first|exact⟨_,rfl,by rw[HF.out],hK⟩|exact⟨_,rfl,by rw[HF.out]⟩
theorem PS.down {lo lo' p:Nat}{d:St}{x:AV}{n:Nat}{pc:List AV}(h:PS lo d x n pc)(h1:lo'<=lo)(hp:p<lo)(c:List AV):PS lo' (d.put p c) x n pc:=by
 rcases h.put hp c with h|⟨o,cap,e1,e2,e3,e4,e5,e6,e7⟩
 ·exact .inl h
 ·exact .inr ⟨o,cap,e1,e2,e3,e4,e5,Ad6,e7⟩
theorem mW (r:Dq)(c:List AV)(hc:O9 false r c)(hr:zG r)(d:St):
  ACalls Tryz.prog 93 [ag c] d fun x d'=>(∃ih X xs,x=ag [sc (.bool false),ic (D5 r).head.p,sl ih (D5 r).head.ts.length (Ac (D5 r).head.ts),X]/\PS d.nobj d' X (D5 r).body.length xs/\EL Pz (D5 r).body xs)/\Keep d d':=by
 have a7:=fun d=>J1 r c hc hr d;have bc:=Uz hr;have bp:=hr.bl;obtain⟨ih,id,b,rfl,hb⟩:=hc;have bo:=EL.length Hh hb;unfold D5;generalize Fa r=lo at a7 bc;have a8:=fun ido d=>Le lo ido r.head.p ih r.head.ts Ad6 (by have:=hr.h3;omega) d;have a9:=fun ido (a:Lit) ia (ha:a∈r.body) d=>Le lo ido a.a.p ia a.a.ts Ad6 (by have:=hr.b3 a ha;omega) d;refine Z9 39 [.cell 2 125] Tryz.func93 ?_
 repeat' (first|refine Z1 ?_|(refine Z8 ?_;intro κ hκ)|(refine Z4 ?_;clear hκ κ)|(refine Z2 ?_ ?_<;>intro h af<;>try exact Xp)|(refine Z6 ?_;intro idn dn aw ak ai ad ah ac)|(refine Z5 ?_;refine Xi (a7 _) ?_;rintro _ _ ⟨⟨ido,rfl⟩,a3⟩;(have aj:=a3.obj;have ao:=a3.nobj;simp only[Aa]at ao))|refine Z3 ?_|exact⟨⟩|(apply hκ.out;clear hκ κ))
 rename_i d1;have av:d1.obj d.nobj=[sc (.bool false),ic r.head.p,sl ih r.head.ts.length (Ac r.head.ts),sl id r.body.length b]:=by
  rw[aj _ Aea,Ae Aea,Ao]
 have au:d1.obj (d.nobj+1)=[sc (.bool false),ic 0,nilS,nilS]:=by
  rw[aj _ Aea,Bu (by rw[Aa];omega) (by rw[Aa];omega)]
 have ay:Keep d d1:=Xs;clear aj a3;refine Bq (Q:=fun e s d'=>e= .normal/\∃o i2:Nat,s 1=ptr d.nobj 0/\s 2=ptr (d.nobj+1) 0/\s 3=sl ido lo.length (icells lo)/\s 4=ptr o 0/\d.nobj+1<o/\o<d'.nobj/\d'.obj d.nobj=[sc (.bool false),ic r.head.p,sl ih r.head.ts.length (Ac r.head.ts),sl id r.body.length b]/\d'.obj (d.nobj+1)=[sc (.bool false),ic 0,nilS,nilS]/\d'.obj o=[sc (.bool false),ic r.head.p,sl i2 r.head.ts.length (Ac (r.head.ts.map (I0 lo))),nilS]/\Keep d d') ?_ ?_
 ·refine A3 Ah (fun _=>True) [8] [0,1,2,3,4] 4 #[true,true,true,true,true,false,false,false,false] Ad9 (fun _ _ _ h=>by cases h.1) ?_;intro κ hκ;refine Z3 ?_;refine hκ.out _ ?_;clear hκ κ;have ba:=fun d=>a8 ido d;refine Dz (rs:=[5,7]) Ad9 (by simp) ?_;intro i hi;simp only[Aci,Ac0,Ad5]at hi;rcases hi with rfl|rfl
  ·refine Ar ?_;intro κ hκ;refine Z3 ?_;refine ACalls.mono (ba _) ?_;rintro _ d2 ⟨⟨i2,rfl⟩,ab⟩;have aa:=ab.obj;have an:=ab.nobj;refine Z3 ?_;refine hκ.out _ _ ⟨Aq ab,?_⟩;clear hκ κ;refine Dz (rs:=[6,7]) Ad9 (by simp) ?_;intro i hi;simp only[Aci,Ac0,Ad5]at hi;rcases hi with rfl|rfl
   ·refine Ar ?_;intro κ hκ;refine Z3 ?_;refine hκ.out _ _ ⟨Aq ab,?_⟩;clear hκ κ;refine Am (i:=7) Ad9 ?_;refine Ar ?_;intro κ hκ;refine Z3 ?_;refine hκ.out _ _ ⟨Aq (ab.new _),?_⟩;clear hκ κ;refine Am (i:=8) Ad9 ?_;refine Ar ?_;intro κ hκ;refine Z3 ?_;refine hκ.out _ _ ⟨Bt rfl,?_⟩;clear hκ κ;refine A7 Ad9 ⟨rfl,d2.nobj,i2,Ad8,Ad8,Ad8,Ad8,Ad6,Aeb,?_,?_,Ak,?_⟩
    ·rw[Aj Ad6,Ae Ad6,aa _ Ad6,av]
    ·rw[Aj Ad6,Ae Ad6,aa _ Ad6,au]
    ·exact ((ay.trans ab).new _).put Ad6 _
   ·refine Ar ?_;intro κ hκ;refine Z3 ?_;refine hκ.out _ _ ⟨Aq (ab.new _),?_⟩;clear hκ κ;refine Am (i:=6) Ad9 ?_;refine Ar ?_;intro κ hκ;refine Z3 ?_;refine hκ.out _ _ ⟨Aq (ab.new _),?_⟩;clear hκ κ;refine Am (i:=8) Ad9 ?_;refine Ar ?_;intro κ hκ;refine Z3 ?_;refine hκ.out _ _ ⟨Bt rfl,?_⟩;clear hκ κ;refine A7 Ad9 ⟨rfl,d2.nobj,i2,Ad8,Ad8,Ad8,Ad8,Ad6,Aeb,?_,?_,Ak,?_⟩
    ·rw[Aj Ad6,Ae Ad6,aa _ Ad6,av]
    ·rw[Aj Ad6,Ae Ad6,aa _ Ad6,au]
    ·exact ((ay.trans ab).new _).put Ad6 _
  ·refine Ar ?_;intro κ hκ;refine Z3 ?_;refine hκ.out _ _ ⟨Aq ((Keep.refl _).new _),?_⟩;clear hκ κ;refine Am (i:=5) Ad9 ?_;refine Ar ?_;intro κ hκ;refine Z3 ?_;refine ACalls.mono (ba _) ?_;rintro _ d2 ⟨⟨i2,rfl⟩,ab⟩;have aa:=ab.obj;have an:=ab.nobj;simp only[Aa]at an;refine Z3 ?_;refine hκ.out _ _ ⟨Aq (((Keep.refl _).new _).trans ab),?_⟩;clear hκ κ;refine Am (i:=6) Ad9 ?_;refine Ar ?_;intro κ hκ;refine Z3 ?_;refine hκ.out _ _ ⟨Aq (((Keep.refl _).new _).trans ab),?_⟩;clear hκ κ;refine Am (i:=8) Ad9 ?_;refine Ar ?_;intro κ hκ;refine Z3 ?_;refine hκ.out _ _ ⟨Bt rfl,?_⟩;clear hκ κ;refine A7 Ad9 ⟨rfl,d1.nobj,i2,Ad8,Ad8,Ad8,Ad8,Ad6,Aeb,?_,?_,Ak,?_⟩
   ·rw[Aj Ad6,aa _ (by rw[Aa];omega),Ae Ad6,av]
   ·rw[Aj Ad6,aa _ (by rw[Aa];omega),Ae Ad6,au]
   ·exact ((ay.new _).trans ab).put Ad6 _
 ·rintro e s d2 ⟨rfl,o,i2,h1,h2,h3,h4,bn,bi,bb,az,ob,hK⟩;have a4:=hK.nobj;clear ay av au ao a8
  repeat' (first|refine Z1 ?_|(refine Z8 ?_;intro κ hκ)|(refine Z4 ?_;clear hκ κ)|(refine Z2 ?_ ?_<;>intro h af<;>try exact Xp)|(refine Z6 ?_;intro idn dn aw ak ai ad ah ac)|refine Z3 ?_|exact⟨⟩|(apply hκ.out;clear hκ κ))
  refine Ad (fun m s d'=>∃(k:Nat) (X:AV) (xs:List AV),m=r.body.length-k/\k<=r.body.length/\s 2=ptr (d.nobj+1) 0/\s 3=sl ido lo.length (icells lo)/\s 4=ptr o 0/\s 18=sl id r.body.length b/\s 19=ic r.body.length/\s 20=ic k/\Keep d d'/\d2.nobj<=d'.nobj/\d'.obj (d.nobj+1)=[sc (.bool false),ic 0,nilS,nilS]/\d'.obj o=[sc (.bool false),ic r.head.p,sl i2 r.head.ts.length (Ac (r.head.ts.map (I0 lo))),X]/\PS d2.nobj d' X k xs/\Aec (EL Pz ((r.body.take k).map (xE lo)) xs)) r.body.length
   ⟨0,nilS,[],Ad6,Ad6,by simp[upd,h2],by simp[upd,h3],by simp[upd,h4],Ad8,Ad8,rfl,hK,Abf _,az,ob,.inl ⟨rfl,rfl,rfl⟩,rfl⟩ ?_
  clear h1 h2 h3 h4 bb az ob hK a4;rintro m s d' ⟨k,X,xs,rfl,hk,h2,h3,h4,bu,br,bq,hK,bm,az,ob,hX,hE⟩;have a4:=hK.nobj;have bf:=hX.flat;by_cases a5:k<r.body.length
  ·have ae:=List.getElem?_eq_getElem a5;obtain⟨ia,rr,hd⟩:=Io hb ae;have hR:=fun d=>a9 ido r.body[k] ia (Ac2 a5) d;generalize r.body[k]=a at hd ae hR;have HX:Aec (∀i4,EL Pz ((r.body.take (k+1)).map (xE lo)) (xs++[sc (.bool a.neg),ic a.a.p,sl i4 a.a.ts.length (Ac (a.a.ts.map (I0 lo)))])):=fun i4=>by
    rw[Abv,ae,Ac5,Abx];exact EL.append hE.out (EL.single ⟨i4,by simp[xE,kH]⟩)
   clear ae hE a9
   repeat' (first|refine Z1 ?_|(refine Z8 ?_;intro κ hκ)|(refine Z4 ?_;clear hκ κ)|(refine Z2 ?_ ?_<;>intro h af<;>try exact Xp)|(refine Z6 ?_;intro idn dn aw ak ai ad ah ac)|(refine Z5 ?_;refine Xi (hR _) ?_;rintro _ _ ⟨⟨i4,rfl⟩,ax⟩;(have am:=ax.obj;have a0:=ax.nobj;simp only[Aa,Ab]at a0 am))|refine Z3 ?_|exact⟨⟩|(apply hκ.out;clear hκ κ))
   rename_i d4;have bh:=((hK.new [sc (.bool false),ic 0,nilS]).put hK.nobj _).trans ax;refine lH (lo:=d2.nobj) (σ0:=d) (by first|exact Fp) (by rfl) (by rfl) (by rfl) Ad6 Ad6 (by simp only[Ag,Ab,Aa];omega) Ad6 (((bh.new _).put Ad6 _).lay 1) (hX.keep ((((((Keep.refl _).new _).put (Abf _) _).trans ax).new _).put Ad6 _|>.lay 1)) ?_;intro X' dn a6 bd ap ak;simp only[Ag,Ab,Aa]at bd;have eob:∀p,p<d2.nobj->dn.obj p=d'.obj p:=fun p hp=>by rw[ap p hp,Ap,Aj Ad6,Ae Ad6,am _ Ad6,Aj Ad6,Ae Ad6]
   obtain⟨og,cg,rfl,-⟩:=a6.gx Ad6;clear ap hX;refine Z3 ?_
   repeat' (first|refine Z1 ?_|(refine Z8 ?_;intro κ hκ)|(refine Z4 ?_;clear hκ κ)|(refine Z2 ?_ ?_<;>intro h af<;>try exact Xp)|(refine Z6 ?_;intro idn dn aw ak ai ad ah ac)|refine Z3 ?_|exact⟨⟩|(apply hκ.out;clear hκ κ))
   refine⟨r.body.length-(k+1),Ad6,k+1,gx og (k+1) cg,xs++[sc (.bool a.neg),ic a.a.p,sl i4 a.a.ts.length (Ac (a.a.ts.map (I0 lo)))],?_⟩
   ((repeat' with_reducible refine And.intro ?_ ?_)<;>first|exact Xq|exact (ak.put Ad6 _)|exact (a6.put Ad6 _)|exact (HX.out i4)|exact Xs)
  ·have be:k=r.body.length:=Ad6;subst be;rw[Abt]at hE;have HP:Aec (PS d.nobj ((d'.put (d.nobj+1) [sc (.bool false),ic r.head.p,sl i2 r.head.ts.length (Ac (r.head.ts.map (I0 lo))),X])) X r.body.length xs):=hX.down Ad6 Ad6 _;have bg:X=nilS\/∃oc cc,X=gx oc r.body.length cc:=by
    rcases hX with⟨h,-⟩|⟨oc,cc,h,-⟩
    ·exact .inl h
    ·exact .inr ⟨oc,cc,h⟩
   clear hX bf;rcases bg with rfl|⟨oc,cc,rfl⟩
   all_goals
    repeat' (first|refine Z1 ?_|(refine Z8 ?_;intro κ hκ)|(refine Z4 ?_;clear hκ κ)|(refine Z2 ?_ ?_<;>intro h af<;>try exact Xp)|(refine Z6 ?_;intro idn dn aw ak ai ad ah ac)|refine Z3 ?_|exact⟨⟩|(apply hκ.out;clear hκ κ))
    exact⟨_,rfl,⟨i2,_,xs,by simp[kH];rfl,by simpa using HP.out,by simpa using hE.out⟩,hK.put Ad6 _⟩
end Go.Proofs.YtmoeoppbmhfbpabGreatDoorJ
