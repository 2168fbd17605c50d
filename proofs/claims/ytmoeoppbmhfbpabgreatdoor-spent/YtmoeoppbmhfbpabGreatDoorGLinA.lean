import Derived.Test.YtmoeoppbmhfbpabGreatDoorGAgrB
import Derived.Test.YtmoeoppbmhfbpabGreatDoorGPrtH
import Derived.Test.YtmoeoppbmhfbpabGreatDoorGUnfF
import Derived.Test.YtmoeoppbmhfbpabGreatDoorGEngW
set_option maxHeartbeats 64000000
set_option maxRecDepth 100000
set_option linter.all false
namespace Go.Proofs.YtmoeoppbmhfbpabGreatDoorG
open Go.Abs
def zF (p:Tx):Tx:=p++[40,65,44,66,41,58,45]++p++[40,65,44,67,41,44]++p++[40,67,44,66,41,46]
def sF (p e:Tx):Tx:=p++[40,65,44,66,41,58,45]++e++[40,65,44,66,41,46]
def Kc (x:RItem):Bool:=Cu x==zF x.head.pred
def Jv (x:RItem):Bool:=match x.body with
 |[a]=>!decide (a.pred=x.head.pred)&&(Cu x==sF x.head.pred a.pred)
 |_=>false
theorem iU {N:List Tx}{p:Tx}(h:p∈N):(N.map str).drop (N.idxOf p)=str p::(N.map str).drop (N.idxOf p+1):=by
 have aa:=Afd h;have:=En aa;rwa[Afc aa]at this
theorem U3 (N:List Tx)(l:List RItem)(cs:List AV)(idn idi:Nat)(hB:Bk N l cs)(x:RItem)(c:List AV)(hx:PI N x c)(hw:WI N x)(d:St):ACalls Tryz.prog 180 [B9 N idn l idi cs,ag c] d fun r d'=>r=sc (.bool (Kc x))/\Keep d d':=by
 have hT:=fun d=>Iw N l cs idn idi hB x c hx hw d;have hN:=hB.nm;have hpl:=hw.short.1.1;obtain⟨hm,ih,id,b,hb,rfl⟩:=hx;have ab:=Afd hm;have ac:=iU hm;have h1:({data:=#[40,65,44,66,41,58,45]}:ByteArray)=bs [40,65,44,66,41,58,45]:=rfl;have h2:({data:=#[40,65,44,67,41,44]}:ByteArray)=bs [40,65,44,67,41,44]:=rfl;have h3:({data:=#[40,67,44,66,41,46]}:ByteArray)=bs [40,67,44,66,41,46]:=rfl;have HA:Agt (∀t,t=zF x.head.pred->(Cu x==t)=Kc x):=fun t e=>by rw[e];rfl
 generalize N.idxOf x.head.pred=ix at ab ac hT;generalize Cu x=W at hT HA;refine Z9 25 [.tmp 4] Tryz.func180 ?_
 repeat' (first|refine Z1 ?_|(refine Z8 ?_;intro κ hκ)|(refine Z4 ?_;clear hκ κ)|(refine Z2 ?_ ?_<;>intro h ad<;>try exact Xp)|(refine Z5 ?_;refine Xi (hT _) ?_;rintro _ _ ⟨rfl,ae⟩;(have aa:=ae.nobj))|refine Z7 ?_|exact⟨⟩|(apply hκ.out;clear hκ κ))
 exact⟨_,rfl,by rw[<-HA.out _ rfl];simp[zF],Xs⟩
theorem uK {N:List Tx}{p q:Tx}(hp:p∈N)(hq:q∈N):(((N.idxOf p:Nat):Int)==((N.idxOf q:Nat):Int))=decide (p=q):=by
 by_cases h:p=q
 ·subst h;simp
 ·have:N.idxOf p≠N.idxOf q:=fun e=>h (by
   have h1:=Afc (Afd hp);have h2:=Afc (Afd hq)
   rw[<-h1,<-h2];congr 1)
  simp[h];omega
theorem eN (N:List Tx)(l:List RItem)(cs:List AV)(idn idi:Nat)(hB:Bk N l cs)(x:RItem)(c:List AV)(hx:PI N x c)(hw:WI N x)(d:St):ACalls Tryz.prog 213 [B9 N idn l idi cs,ag c] d fun r d'=>r=sc (.bool (Jv x))/\Keep d d':=by
 have hT:=fun d=>Iw N l cs idn idi hB x c hx hw d;have hN:=hB.nm;have hpl:=hw.short.1.1;have ae:=hw.short.2;have av:=hw.body;obtain⟨hm,ih,id,b,hb,rfl⟩:=hx;have ah:=Afd hm;have ai:=iU hm;have ao:=EL.length Dp hb;have h1:({data:=#[40,65,44,66,41,58,45]}:ByteArray)=bs [40,65,44,66,41,58,45]:=rfl;have h2:({data:=#[40,65,44,66,41,46]}:ByteArray)=bs [40,65,44,66,41,46]:=rfl;by_cases ab:x.body.length=1
 ·obtain⟨a,ad⟩:=List.length_eq_one_iff.1 ab;have ac:x.body[0]?=some a:=by rw[ad];rfl
  obtain⟨af,ia,ra,aj⟩:=Mx hb ac;have aw:=(ae a (by rw[ad];simp)).1;have am:=Afd af;have an:=iU af;have hq:=uK af hm;have ap:((x.body.length:Int) !=1)=false:=by rw[ab];rfl
  simp only[Aeb,List.drop_zero]at aj;subst aj;have HS:Agt (Jv x=(!decide (a.pred=x.head.pred)&&(Cu x==sF x.head.pred a.pred))):=by rw[Agt,Jv,ad]
  have ax:0<x.body.length:=Agm;generalize N.idxOf x.head.pred=ix at ah ai hT hq;generalize N.idxOf a.pred=jx at am an hq hT ao;generalize Cu x=W at hT HS;generalize x.body.length=n at*
  clear ab ac ad ae hb;refine Z9 49 [.tmp 4] Tryz.func213 ?_
  repeat' (first|refine Z1 ?_|(refine Z8 ?_;intro κ hκ)|(refine Z4 ?_;clear hκ κ)|(refine Z2 ?_ ?_<;>intro h aa<;>try exact Xp)|refine Z7 ?_|exact⟨⟩|(apply hκ.out;clear hκ κ))
  refine B6 (Q:=fun e s' d''=>e= .normal/\s' 22=sc (.bool (decide (a.pred=x.head.pred)))/\s' 2=ptr d.nobj 0/\s' 3=ptr (d.nobj+1) 0/\d''=(d.new [sl idn N.length (N.map str),sl idi l.length cs]).new [sc (.bool x.out),sc (.int .i64 ix),sl ih x.head.terms.length (Ay x.head.terms),sl id n (sc (.bool a.nt)::sc (.int .i64 jx)::sl ia a.terms.length (Ay a.terms)::ra)]) ?_ ?_
  ·refine Bh Al (fun _=>True) [] [0,1,2,3,4,5,6,7,8,9,10,11,12,13,14,15] 0 #[true,true,true,true,true,true,true,true,true,true,true,true,true,true,true,true] Agp (fun _ _ _ h=>by cases h.1) ?_;intro κ hκ;refine Z7 ?_;refine hκ.out _ ?_;clear hκ κ;exact A6 Agp ⟨rfl,Agn,Agn,Agn,rfl⟩
  rintro e s' d'' ⟨rfl,g22,g2,g3,rfl⟩;cases hp:decide (a.pred=x.head.pred)with
  |true=>
   have HF:Agt (Jv x=false):=by rw[Agt,HS.out,hp];rfl
   rw[hp]at g22;clear HS hp;refine Gn g22 ?_
   repeat' (first|refine Z1 ?_|(refine Z8 ?_;intro κ hκ)|(refine Z4 ?_;clear hκ κ)|(refine Z2 ?_ ?_<;>intro h aa<;>try exact Xp)|refine Z7 ?_|exact⟨⟩|(apply hκ.out;clear hκ κ))
   exact⟨_,rfl,by rw[HF.out],Xs⟩
  |false=>
   have HF:Agt (∀t,t=sF x.head.pred a.pred->(W==t)=Jv x):=fun t e=>by rw[e,HS.out,hp];rfl
   rw[hp]at g22;clear HS hp hq;refine Gp g22 ?_
   repeat' (first|refine Z1 ?_|(refine Z8 ?_;intro κ hκ)|(refine Z4 ?_;clear hκ κ)|(refine Z2 ?_ ?_<;>intro h aa<;>try exact Xp)|refine Z7 ?_|exact⟨⟩|(apply hκ.out;clear hκ κ))
   refine B6 (Q:=fun e s' d''=>e= .normal/\s' 5=str x.head.pred/\s' 6=str a.pred/\s' 2=ptr d.nobj 0/\s' 3=ptr (d.nobj+1) 0/\d''=(d.new [sl idn N.length (N.map str),sl idi l.length cs]).new [sc (.bool x.out),sc (.int .i64 ix),sl ih x.head.terms.length (Ay x.head.terms),sl id n (sc (.bool a.nt)::sc (.int .i64 jx)::sl ia a.terms.length (Ay a.terms)::ra)]) ?_ ?_
   ·refine Bh Al (fun _=>True) [] [0,1,2,3,4,5,6,7,8,9,10] 0 #[true,true,true,true,true,true,true,true,true,true,true] Agp (fun _ _ _ h=>by cases h.1) ?_;intro κ hκ;refine Z7 ?_;refine hκ.out _ ?_;clear hκ κ;exact A6 Agp ⟨rfl,Agn,Agn,Agn,Agn,rfl⟩
   rintro e s2 d2 ⟨rfl,k5,k6,k2,k3,rfl⟩
   repeat' (first|refine Z1 ?_|(refine Z8 ?_;intro κ hκ)|(refine Z4 ?_;clear hκ κ)|(refine Z2 ?_ ?_<;>intro h aa<;>try exact Xp)|(refine Z5 ?_;refine Xi (hT _) ?_;rintro _ _ ⟨rfl,au⟩;(have ak:=au.nobj))|refine Z7 ?_|exact⟨⟩|(apply hκ.out;clear hκ κ))
   exact⟨_,rfl,by rw[<-HF.out _ rfl];simp[sF],Xs⟩
 ·have ap:((x.body.length:Int) !=1)=true:=by simp;omega
  have HS:Agt (Jv x=false):=by
   unfold Jv Agt;split
   ·rename_i a e;rw[e]at ab;exact absurd rfl ab
   ·rfl
  generalize N.idxOf x.head.pred=ix at ah ai hT;generalize x.body.length=n at*
  clear ab ae hb;refine Z9 49 [.tmp 4] Tryz.func213 ?_
  repeat' (first|refine Z1 ?_|(refine Z8 ?_;intro κ hκ)|(refine Z4 ?_;clear hκ κ)|(refine Z2 ?_ ?_<;>intro h aa<;>try exact Xp)|refine Z7 ?_|exact⟨⟩|(apply hκ.out;clear hκ κ))
  refine B6 (Q:=fun e s' d''=>e= .normal/\s' 22=sc (.bool true)/\s' 2=ptr d.nobj 0/\s' 3=ptr (d.nobj+1) 0/\d''=(d.new [sl idn N.length (N.map str),sl idi l.length cs]).new [sc (.bool x.out),sc (.int .i64 ix),sl ih x.head.terms.length (Ay x.head.terms),sl id n b]) ?_ ?_
  ·refine Bh Al (fun _=>True) [] [0,1,2,3,4,5,6,7,8,9,10,11,12,13,14,15] 0 #[true,true,true,true,true,true,true,true,true,true,true,true,true,true,true,true] Agp (fun _ _ _ h=>by cases h.1) ?_;intro κ hκ;refine Z7 ?_;refine hκ.out _ ?_;clear hκ κ;exact A6 Agp ⟨rfl,Agn,Agn,Agn,rfl⟩
  rintro e s' d'' ⟨rfl,g22,g2,g3,rfl⟩;refine Gn g22 ?_
  repeat' (first|refine Z1 ?_|(refine Z8 ?_;intro κ hκ)|(refine Z4 ?_;clear hκ κ)|(refine Z2 ?_ ?_<;>intro h aa<;>try exact Xp)|refine Z7 ?_|exact⟨⟩|(apply hκ.out;clear hκ κ))
  exact⟨_,rfl,by rw[HS.out],Xs⟩
def K9 (n:Nat)(q:Tx)(p:RItem×Nat):Bool:=!decide (p.2=n)&&Jl q p.1
def H0 (l:List RItem)(n:Nat)(q:Tx):List RItem:=(l.zipIdx.filter (K9 n q)).map (·.1)
theorem oT {l:List RItem}{n:Nat}{q:Tx}{i:Nat}{y:RItem}(h:l[i]?=some y):H0 (l.take (i+1)) n q=H0 (l.take i) n q++if K9 n q (y,i)=true then [y]else []:=by
 have hi:=(List.getElem?_eq_some_iff.1 h).1;unfold H0;rw[Ad3,h,Afe,List.zipIdx_append,Afv,Ad5,Aef,Aej Agm];congr 1;rw[show ([y]:List RItem).zipIdx (0+i)=[(y,i)]by simp,Agc];split<;>rfl
theorem tM (l:List RItem)(n:Nat)(q:Tx)(i:Nat):∃r,H0 l n q=H0 (l.take i) n q++r:=by
 refine⟨(((l.drop i).zipIdx (l.take i).length).filter (K9 n q)).map (·.1),?_⟩
 conv=>lhs;rw[<-Afn i l]
 unfold H0;rw[List.zipIdx_append,Afv,Ad5,Aed]
def D6 (l:List RItem)(n:Nat)(q:Tx):Option Tx:=match H0 l n q with
 |[y]=>if Jv y=true then (match y.body with|[a]=>some a.pred|_=>none)else none
 |_=>none
def Kx (N:List Tx)(l:List RItem)(n:Nat)(q:Tx):Int:=match D6 l n q with
 |some e=>(N.idxOf e:Nat)
 |none=> -1
theorem sE {y:RItem}(h:Jv y=true):∃a,y.body=[a]:=by
 unfold Jv at h;split at h
 ·rename_i a e;exact⟨a,e⟩
 ·cases h
theorem Q1 (N:List Tx)(ar:Tx->Nat)(l:List RItem)(cs:List AV)(idn idi n:Nat)(x:RItem)(hR:RtL N ar l)(hE:EL (PI N) l cs)(hx:l[n]?=some x)(d:St):ACalls Tryz.prog 181 [B9 N idn l idi cs,sc (.int .i64 n)] d fun r d'=>r=sc (.int .i64 (Kx N l n x.head.pred))/\Keep d d':=by
 have bi:=EL.length D2 hE;have av:=hR.gl.len;have hN:=hR.gl.nm;have ba:=fun y c (hy:PI N y c) (hm:y∈l) d=>eN N l cs idn idi ((hR.gl.bkm hE).bk av) y c hy (hR.wi y hm) d;have bg:n<l.length:=(List.getElem?_eq_some_iff.1 hx).1;obtain⟨a4,ihx,idx,bx,rx,bm,bh⟩:=G8 hE hx;have HB:Agt (∀y∈l,y.body.length<=5/\y.head.pred∈N/\∀a∈y.body,y.out=false->a.pred∈N):=fun y hy=>⟨hR.b5 y hy,(hR.gl.msr y hy).mem,fun a ha ho=>((hR.ru y hy ho).body a ha).mem⟩;clear hR;refine Z9 52 [.tmp 4] Tryz.func181 ?_
 repeat' (first|refine Z1 ?_|(refine Z8 ?_;intro κ hκ)|(refine Z4 ?_;clear hκ κ)|(refine Z2 ?_ ?_<;>intro h ac<;>try exact Xp)|refine Z3 ?_|exact⟨⟩|(apply hκ.out;clear hκ κ))
 refine Ag (fun m s d'=>∃(i:Nat) (v:Int),m=l.length-i/\i<=l.length/\s 1=ic n/\s 2=ptr d.nobj 0/\s 5=ic v/\s 9=sl idi l.length cs/\s 10=ic l.length/\s 11=ic i/\Keep d d'/\d.nobj<d'.nobj/\d'.obj d.nobj=[sl idn N.length (N.map str),sl idi l.length cs]/\Agt ((H0 (l.take i) n x.head.pred=[]/\v= -1)\/∃y a,H0 (l.take i) n x.head.pred=[y]/\Jv y=true/\y.body=[a]/\v=((N.idxOf a.pred:Nat):Int))) l.length
  ⟨0,-1,Agm,Agm,by simp[upd,initS],Ago,Ago,Ago,Ago,Ago,Xs,Agq,Ap,.inl ⟨rfl,rfl⟩⟩ ?_
 rintro m s d' ⟨i,v,rfl,hi,h1,h2,h5,h9,bd,bb,hK,hno,a3,hA⟩;have be:=hK.nobj;by_cases az:i<l.length
 ·have af:=List.getElem?_eq_getElem az;have ap:=Afa az;obtain⟨a9,aw,a8⟩:=HB.out l[i] ap;obtain⟨ay,ih,idb,b,r,am,hd⟩:=G8 hE af;have ah:=fun d=>ba l[i] _ (PI.of (ih:=ih) (id:=idb) ay am) ap d;have aa:=oT (n:=n) (q:=x.head.pred) af;have ab:=tM l n x.head.pred (i+1);generalize l[i]=y at af ap a9 aw a8 ay am hd ah aa ab;have a5:=mU aw a4;have bn:=EL.length Dp am;clear af
  repeat' (first|refine Z1 ?_|(refine Z8 ?_;intro κ hκ)|(refine Z4 ?_;clear hκ κ)|(refine Z2 ?_ ?_<;>intro h ac<;>try exact Xp)|refine Z3 ?_|exact⟨⟩|(apply hκ.out;clear hκ κ))
  refine B6 (Q:=fun e s' d''=>e= .normal/\s' 35=sc (.bool (!K9 n x.head.pred (y,i)))/\s' 1=ic n/\s' 2=ptr d.nobj 0/\s' 5=ic v/\s' 7=ptr d'.nobj 0/\s' 9=sl idi l.length cs/\s' 10=ic l.length/\s' 11=ic i/\d''=(d'.new [sc (.bool false),ic 0,nilS,nilS]).put d'.nobj [sc (.bool y.out),sc (.int .i64 (N.idxOf y.head.pred:Nat)),sl ih y.head.terms.length (Ay y.head.terms),sl idb y.body.length b]) ?_ ?_
  ·have ax:((d'.new [sc (.bool false),ic 0,nilS,nilS]).put d'.nobj [sc (.bool y.out),sc (.int .i64 (N.idxOf y.head.pred:Nat)),sl ih y.head.terms.length (Ay y.head.terms),sl idb y.body.length b]).obj d.nobj=[sl idn N.length (N.map str),sl idi l.length cs]:=by rw[Ai Agm,Af Agm,a3]
   by_cases ai:i=n
   ·have ak:Agt (K9 n x.head.pred (y,i)=false):=by simp[Agt,K9,ai]
    have a7:((i:Int)==(n:Int))=true:=by simp[ai]
    clear ai aa hA;refine Bh Al (fun _=>True) [] [0,1,2,3,4,5,6,7,8,9,10,11,12,13,14,15,16,17,18,19] 0 #[true,true,true,true,true,true,true,true,true,true,true,true,true,true,true,true,true,true,true,true] Agp (fun _ _ _ h=>by cases h.1) ?_;intro κ hκ;refine Z3 ?_;refine hκ.out _ ?_;clear hκ κ;exact A6 Agp ⟨rfl,by rw[ak.out];simp[upd, *],Agn,Agn,Agn,Agn,Agn,Agn,Agn,rfl⟩
   ·have a7:((i:Int)==(n:Int))=false:=by simp;omega
    cases ad:y.out with
    |true=>
     have ak:Agt (K9 n x.head.pred (y,i)=false):=by simp[Agt,K9,Jl,ad]
     rw[ad]at ax;clear ai aa hA ad;refine Bh Al (fun _=>True) [] [0,1,2,3,4,5,6,7,8,9,10,11,12,13,14,15,16,17,18,19] 0 #[true,true,true,true,true,true,true,true,true,true,true,true,true,true,true,true,true,true,true,true] Agp (fun _ _ _ h=>by cases h.1) ?_;intro κ hκ;refine Z3 ?_;refine hκ.out _ ?_;clear hκ κ;exact A6 Agp ⟨rfl,by rw[ak.out];simp[upd, *],Agn,Agn,Agn,Agn,Agn,Agn,Agn,rfl⟩
    |false=>
     have ak:Agt ((!K9 n x.head.pred (y,i))=!decide (y.head.pred=x.head.pred)):=by simp[Agt,K9,Jl,ad,ai]
     rw[ad]at ax;clear ai aa hA ad;refine Bh Al (fun _=>True) [] [0,1,2,3,4,5,6,7,8,9,10,11,12,13,14,15,16,17,18,19] 0 #[true,true,true,true,true,true,true,true,true,true,true,true,true,true,true,true,true,true,true,true] Agp (fun _ _ _ h=>by cases h.1) ?_;intro κ hκ;refine Z3 ?_;refine hκ.out _ ?_;clear hκ κ;exact A6 Agp ⟨rfl,by rw[ak.out];simp[upd, *],Agn,Agn,Agn,Agn,Agn,Agn,Agn,rfl⟩
  rintro e s' d'' ⟨rfl,g35,g1,g2,g5,g7,g9,g10,g11,rfl⟩;clear h1 h2 h5 h9 bd bb a5;cases ae:K9 n x.head.pred (y,i)with
  |false=>
   rw[ae]at g35 aa;have HA:Agt ((H0 (l.take (i+1)) n x.head.pred=[]/\v= -1)\/∃y a,H0 (l.take (i+1)) n x.head.pred=[y]/\Jv y=true/\y.body=[a]/\v=((N.idxOf a.pred:Nat):Int)):=by
    rw[Agt,aa];simpa using hA.out
   clear aa ab hA ae ah;refine Gn g35 ?_
   repeat' (first|refine Z1 ?_|(refine Z8 ?_;intro κ hκ)|(refine Z4 ?_;clear hκ κ)|(refine Z2 ?_ ?_<;>intro h ac<;>try exact Xp)|refine Z3 ?_|exact⟨⟩|(apply hκ.out;clear hκ κ))
   refine⟨l.length-(i+1),Agm,i+1,v,?_⟩
   ((repeat' with_reducible refine And.intro ?_ ?_)<;>first|exact Xq|exact (HA)|exact Xs)
  |true=>
   rw[ae]at g35 aa;simp only[if_true]at aa;have ad:y.out=false:=by
    unfold K9 Jl at ae;simp only[Adv,Af0]at ae;exact ae.2.1
   refine Gp g35 ?_;by_cases hv:v= -1
   ·have au:H0 (l.take i) n x.head.pred=[]:=by
     rcases hA.out with⟨e,-⟩|⟨y,a,-,-,-,e⟩
     ·exact e
     ·omega
    rw[au,Aeu]at aa;subst hv;cases hs:Jv y with
    |false=>
     have HF:Agt (Kx N l n x.head.pred= -1):=by
      obtain⟨r,e⟩:=ab;rw[aa]at e;unfold Kx D6 Agt;rw[e];cases r with
      |nil=>simp[hs]
      |cons a r=>rfl
     rw[hs,ad]at ah;clear aa ab hA ae hs au
     repeat' (first|refine Z1 ?_|(refine Z8 ?_;intro κ hκ)|(refine Z4 ?_;clear hκ κ)|(refine Z2 ?_ ?_<;>intro h ac<;>try exact Xp)|(refine Z5 ?_;refine Xi (ah _) ?_;rintro _ _ ⟨rfl,an⟩;(have aj:=an.nobj))|refine Z3 ?_|exact⟨⟩|(apply hκ.out;clear hκ κ))
     exact⟨_,rfl,by rw[HF.out],Xs⟩
    |true=>
     obtain⟨a,ha⟩:=sE hs;have HA:Agt ((H0 (l.take (i+1)) n x.head.pred=[]/\((N.idxOf a.pred:Nat):Int)= -1)\/∃y b,H0 (l.take (i+1)) n x.head.pred=[y]/\Jv y=true/\y.body=[b]/\((N.idxOf a.pred:Nat):Int)=((N.idxOf b.pred:Nat):Int)):=.inr ⟨y,a,aa,hs,ha,rfl⟩;obtain⟨bo,ia,ra,a0⟩:=Mx am (show y.body[0]?=some a by rw[ha];rfl);simp only[Aeb,List.drop_zero]at a0;have bp:0<y.body.length:=by rw[ha];simp
     rw[hs]at ah;rw[ad]at ah;subst a0;clear aa ab hA ae hs au ha am
     repeat' (first|refine Z1 ?_|(refine Z8 ?_;intro κ hκ)|(refine Z4 ?_;clear hκ κ)|(refine Z2 ?_ ?_<;>intro h ac<;>try exact Xp)|(refine Z5 ?_;refine Xi (ah _) ?_;rintro _ _ ⟨rfl,an⟩;(have aj:=an.nobj;have ao:=an.obj;simp only[Ab,Aa]at aj ao))|refine Z3 ?_|exact⟨⟩|(apply hκ.out;clear hκ κ))
     refine⟨l.length-(i+1),Agm,i+1,((N.idxOf a.pred:Nat):Int),?_⟩
     ((repeat' with_reducible refine And.intro ?_ ?_)<;>first|exact Xq|exact (HA)|exact Xs)
   ·have bf:(v != -1)=true:=by simpa using hv
    have HF:Agt (Kx N l n x.head.pred= -1):=by
     rcases hA.out with⟨-,e⟩|⟨z,a,e,-,-,-⟩
     ·exact absurd e hv
     ·obtain⟨r,e2⟩:=ab;rw[aa,e]at e2;unfold Kx D6 Agt;rw[e2];rfl
    clear aa ab hA ae hv ah
    repeat' (first|refine Z1 ?_|(refine Z8 ?_;intro κ hκ)|(refine Z4 ?_;clear hκ κ)|(refine Z2 ?_ ?_<;>intro h ac<;>try exact Xp)|refine Z3 ?_|exact⟨⟩|(apply hκ.out;clear hκ κ))
    exact⟨_,rfl,by rw[HF.out],Xs⟩
 ·have a6:i=l.length:=Agm;subst a6;have HF:Agt (Kx N l n x.head.pred=v):=by
   have:=hA.out;rw[Adz]at this;unfold Kx D6 Agt;rcases this with⟨e,rfl⟩|⟨y,a,e,e2,e3,rfl⟩
   ·rw[e]
   ·rw[e];simp only[e2,if_true,e3]
  clear hA
  repeat' (first|refine Z1 ?_|(refine Z8 ?_;intro κ hκ)|(refine Z4 ?_;clear hκ κ)|(refine Z2 ?_ ?_<;>intro h ac<;>try exact Xp)|refine Z3 ?_|exact⟨⟩|(apply hκ.out;clear hκ κ))
  first|exact⟨_,rfl,by rw[HF.out],hK⟩|exact⟨_,rfl,by rw[HF.out]⟩
theorem PS.down {lo lo' p:Nat}{d:St}{x:AV}{n:Nat}{pc:List AV}(h:PS lo d x n pc)(h1:lo'<=lo)(hp:p<lo)(c:List AV):PS lo' (d.put p c) x n pc:=by
 rcases h.put hp c with h|⟨o,cap,e1,e2,e3,e4,e5,e6,e7⟩
 ·exact .inl h
 ·exact .inr ⟨o,cap,e1,e2,e3,e4,e5,Agm,e7⟩
theorem oU (r:D8)(c:List AV)(hc:Qd false r c)(hr:R52 r)(d:St):
  ACalls Tryz.prog 93 [ag c] d fun x d'=>(∃ih X xs,x=ag [sc (.bool false),ic (Eg r).head.p,sl ih (Eg r).head.ts.length (Ac (Eg r).head.ts),X]/\PS d.nobj d' X (Eg r).body.length xs/\EL Pi (Eg r).body xs)/\Keep d d':=by
 have a7:=fun d=>Kh r c hc hr d;have bd:=V1 hr;have bp:=hr.bl;obtain⟨ih,id,b,rfl,hb⟩:=hc;have bo:=EL.length F6 hb;unfold Eg;generalize Eh r=lo at a7 bd;have a8:=fun ido d=>L8 lo ido r.head.p ih r.head.ts Agm (by have:=hr.h3;omega) d;have a9:=fun ido (a:Lit) ia (ha:a∈r.body) d=>L8 lo ido a.a.p ia a.a.ts Agm (by have:=hr.b3 a ha;omega) d;refine Z9 39 [.cell 2 125] Tryz.func93 ?_
 repeat' (first|refine Z1 ?_|(refine Z8 ?_;intro κ hκ)|(refine Z4 ?_;clear hκ κ)|(refine Z2 ?_ ?_<;>intro h af<;>try exact Xp)|(refine Z6 ?_;intro idn dn aw ak ai ad ah ac)|(refine Z5 ?_;refine Xi (a7 _) ?_;rintro _ _ ⟨⟨ido,rfl⟩,a3⟩;(have aj:=a3.obj;have ao:=a3.nobj;simp only[Aa]at ao))|refine Z3 ?_|exact⟨⟩|(apply hκ.out;clear hκ κ))
 rename_i d1;have av:d1.obj d.nobj=[sc (.bool false),ic r.head.p,sl ih r.head.ts.length (Ac r.head.ts),sl id r.body.length b]:=by
  rw[aj _ Agq,Af Agq,Ap]
 have au:d1.obj (d.nobj+1)=[sc (.bool false),ic 0,nilS,nilS]:=by
  rw[aj _ Agq,Bs (by rw[Aa];omega) (by rw[Aa];omega)]
 have ay:Keep d d1:=Xs;clear aj a3;refine B6 (Q:=fun e s d'=>e= .normal/\∃o i2:Nat,s 1=ptr d.nobj 0/\s 2=ptr (d.nobj+1) 0/\s 3=sl ido lo.length (As lo)/\s 4=ptr o 0/\d.nobj+1<o/\o<d'.nobj/\d'.obj d.nobj=[sc (.bool false),ic r.head.p,sl ih r.head.ts.length (Ac r.head.ts),sl id r.body.length b]/\d'.obj (d.nobj+1)=[sc (.bool false),ic 0,nilS,nilS]/\d'.obj o=[sc (.bool false),ic r.head.p,sl i2 r.head.ts.length (Ac (r.head.ts.map (Ge lo))),nilS]/\Keep d d') ?_ ?_
 ·refine Bh Al (fun _=>True) [8] [0,1,2,3,4] 4 #[true,true,true,true,true,false,false,false,false] Agp (fun _ _ _ h=>by cases h.1) ?_;intro κ hκ;refine Z3 ?_;refine hκ.out _ ?_;clear hκ κ;have ba:=fun d=>a8 ido d;refine D4 (rs:=[5,7]) Agp (by simp) ?_;intro i hi;simp only[Aeq,Ae8,Agk]at hi;rcases hi with rfl|rfl
  ·refine Ar ?_;intro κ hκ;refine Z3 ?_;refine ACalls.mono (ba _) ?_;rintro _ d2 ⟨⟨i2,rfl⟩,ab⟩;have aa:=ab.obj;have an:=ab.nobj;refine Z3 ?_;refine hκ.out _ _ ⟨Aq ab,?_⟩;clear hκ κ;refine D4 (rs:=[6,7]) Agp (by simp) ?_;intro i hi;simp only[Aeq,Ae8,Agk]at hi;rcases hi with rfl|rfl
   ·refine Ar ?_;intro κ hκ;refine Z3 ?_;refine hκ.out _ _ ⟨Aq ab,?_⟩;clear hκ κ;refine Ao (i:=7) Agp ?_;refine Ar ?_;intro κ hκ;refine Z3 ?_;refine hκ.out _ _ ⟨Aq (ab.new _),?_⟩;clear hκ κ;refine Ao (i:=8) Agp ?_;refine Ar ?_;intro κ hκ;refine Z3 ?_;refine hκ.out _ _ ⟨Bq rfl,?_⟩;clear hκ κ;refine A6 Agp ⟨rfl,d2.nobj,i2,Ago,Ago,Ago,Ago,Agm,Ags,?_,?_,Aj,?_⟩
    ·rw[Ai Agm,Af Agm,aa _ Agm,av]
    ·rw[Ai Agm,Af Agm,aa _ Agm,au]
    ·exact ((ay.trans ab).new _).put Agm _
   ·refine Ar ?_;intro κ hκ;refine Z3 ?_;refine hκ.out _ _ ⟨Aq (ab.new _),?_⟩;clear hκ κ;refine Ao (i:=6) Agp ?_;refine Ar ?_;intro κ hκ;refine Z3 ?_;refine hκ.out _ _ ⟨Aq (ab.new _),?_⟩;clear hκ κ;refine Ao (i:=8) Agp ?_;refine Ar ?_;intro κ hκ;refine Z3 ?_;refine hκ.out _ _ ⟨Bq rfl,?_⟩;clear hκ κ;refine A6 Agp ⟨rfl,d2.nobj,i2,Ago,Ago,Ago,Ago,Agm,Ags,?_,?_,Aj,?_⟩
    ·rw[Ai Agm,Af Agm,aa _ Agm,av]
    ·rw[Ai Agm,Af Agm,aa _ Agm,au]
    ·exact ((ay.trans ab).new _).put Agm _
  ·refine Ar ?_;intro κ hκ;refine Z3 ?_;refine hκ.out _ _ ⟨Aq ((Keep.refl _).new _),?_⟩;clear hκ κ;refine Ao (i:=5) Agp ?_;refine Ar ?_;intro κ hκ;refine Z3 ?_;refine ACalls.mono (ba _) ?_;rintro _ d2 ⟨⟨i2,rfl⟩,ab⟩;have aa:=ab.obj;have an:=ab.nobj;simp only[Aa]at an;refine Z3 ?_;refine hκ.out _ _ ⟨Aq (((Keep.refl _).new _).trans ab),?_⟩;clear hκ κ;refine Ao (i:=6) Agp ?_;refine Ar ?_;intro κ hκ;refine Z3 ?_;refine hκ.out _ _ ⟨Aq (((Keep.refl _).new _).trans ab),?_⟩;clear hκ κ;refine Ao (i:=8) Agp ?_;refine Ar ?_;intro κ hκ;refine Z3 ?_;refine hκ.out _ _ ⟨Bq rfl,?_⟩;clear hκ κ;refine A6 Agp ⟨rfl,d1.nobj,i2,Ago,Ago,Ago,Ago,Agm,Ags,?_,?_,Aj,?_⟩
   ·rw[Ai Agm,aa _ (by rw[Aa];omega),Af Agm,av]
   ·rw[Ai Agm,aa _ (by rw[Aa];omega),Af Agm,au]
   ·exact ((ay.new _).trans ab).put Agm _
 ·rintro e s d2 ⟨rfl,o,i2,h1,h2,h3,h4,bn,bm,bb,az,ob,hK⟩;have a4:=hK.nobj;clear ay av au ao a8
  repeat' (first|refine Z1 ?_|(refine Z8 ?_;intro κ hκ)|(refine Z4 ?_;clear hκ κ)|(refine Z2 ?_ ?_<;>intro h af<;>try exact Xp)|(refine Z6 ?_;intro idn dn aw ak ai ad ah ac)|refine Z3 ?_|exact⟨⟩|(apply hκ.out;clear hκ κ))
  refine Ag (fun m s d'=>∃(k:Nat) (X:AV) (xs:List AV),m=r.body.length-k/\k<=r.body.length/\s 2=ptr (d.nobj+1) 0/\s 3=sl ido lo.length (As lo)/\s 4=ptr o 0/\s 18=sl id r.body.length b/\s 19=ic r.body.length/\s 20=ic k/\Keep d d'/\d2.nobj<=d'.nobj/\d'.obj (d.nobj+1)=[sc (.bool false),ic 0,nilS,nilS]/\d'.obj o=[sc (.bool false),ic r.head.p,sl i2 r.head.ts.length (Ac (r.head.ts.map (Ge lo))),X]/\PS d2.nobj d' X k xs/\Agt (EL Pi ((r.body.take k).map (xY lo)) xs)) r.body.length
   ⟨0,nilS,[],Agm,Agm,by simp[upd,h2],by simp[upd,h3],by simp[upd,h4],Ago,Ago,rfl,hK,Adn _,az,ob,.inl ⟨rfl,rfl,rfl⟩,rfl⟩ ?_
  clear h1 h2 h3 h4 bb az ob hK a4;rintro m s d' ⟨k,X,xs,rfl,hk,h2,h3,h4,bu,br,bq,hK,hno,az,ob,hX,hE⟩;have a4:=hK.nobj;have bg:=hX.flat;by_cases a5:k<r.body.length
  ·have ae:=List.getElem?_eq_getElem a5;obtain⟨ia,rr,hd⟩:=Gx hb ae;have hR:=fun d=>a9 ido r.body[k] ia (Afa a5) d;generalize r.body[k]=a at hd ae hR;have HX:Agt (∀i4,EL Pi ((r.body.take (k+1)).map (xY lo)) (xs++[sc (.bool a.neg),ic a.a.p,sl i4 a.a.ts.length (Ac (a.a.ts.map (Ge lo)))])):=fun i4=>by
    rw[Ad3,ae,Afe,Ad5];exact EL.append hE.out (EL.single ⟨i4,by simp[xY,cT]⟩)
   clear ae hE a9
   repeat' (first|refine Z1 ?_|(refine Z8 ?_;intro κ hκ)|(refine Z4 ?_;clear hκ κ)|(refine Z2 ?_ ?_<;>intro h af<;>try exact Xp)|(refine Z6 ?_;intro idn dn aw ak ai ad ah ac)|(refine Z5 ?_;refine Xi (hR _) ?_;rintro _ _ ⟨⟨i4,rfl⟩,ax⟩;(have am:=ax.obj;have a0:=ax.nobj;simp only[Aa,Ab]at a0 am))|refine Z3 ?_|exact⟨⟩|(apply hκ.out;clear hκ κ))
   rename_i d4;have bi:=((hK.new [sc (.bool false),ic 0,nilS]).put hK.nobj _).trans ax;refine nF (lo:=d2.nobj) (σ0:=d) (by first|exact Ed) (by rfl) (by rfl) (by rfl) Agm Agm (by simp only[Ah,Ab,Aa];omega) Agm (((bi.new _).put Agm _).lay 1) (hX.keep ((((((Keep.refl _).new _).put (Adn _) _).trans ax).new _).put Agm _|>.lay 1)) ?_;intro X' dn a6 be ap ak;simp only[Ah,Ab,Aa]at be;have eob:∀p,p<d2.nobj->dn.obj p=d'.obj p:=fun p hp=>by rw[ap p hp,Av,Ai Agm,Af Agm,am _ Agm,Ai Agm,Af Agm]
   obtain⟨og,cg,rfl,-⟩:=a6.gx Agm;clear ap hX;refine Z3 ?_
   repeat' (first|refine Z1 ?_|(refine Z8 ?_;intro κ hκ)|(refine Z4 ?_;clear hκ κ)|(refine Z2 ?_ ?_<;>intro h af<;>try exact Xp)|(refine Z6 ?_;intro idn dn aw ak ai ad ah ac)|refine Z3 ?_|exact⟨⟩|(apply hκ.out;clear hκ κ))
   refine⟨r.body.length-(k+1),Agm,k+1,gx og (k+1) cg,xs++[sc (.bool a.neg),ic a.a.p,sl i4 a.a.ts.length (Ac (a.a.ts.map (Ge lo)))],?_⟩
   ((repeat' with_reducible refine And.intro ?_ ?_)<;>first|exact Xq|exact (ak.put Agm _)|exact (a6.put Agm _)|exact (HX.out i4)|exact Xs)
  ·have bf:k=r.body.length:=Agm;subst bf;rw[Adz]at hE;have HP:Agt (PS d.nobj ((d'.put (d.nobj+1) [sc (.bool false),ic r.head.p,sl i2 r.head.ts.length (Ac (r.head.ts.map (Ge lo))),X])) X r.body.length xs):=hX.down Agm Agm _;have bh:X=nilS\/∃oc cc,X=gx oc r.body.length cc:=by
    rcases hX with⟨h,-⟩|⟨oc,cc,h,-⟩
    ·exact .inl h
    ·exact .inr ⟨oc,cc,h⟩
   clear hX bg;rcases bh with rfl|⟨oc,cc,rfl⟩
   all_goals
    repeat' (first|refine Z1 ?_|(refine Z8 ?_;intro κ hκ)|(refine Z4 ?_;clear hκ κ)|(refine Z2 ?_ ?_<;>intro h af<;>try exact Xp)|(refine Z6 ?_;intro idn dn aw ak ai ad ah ac)|refine Z3 ?_|exact⟨⟩|(apply hκ.out;clear hκ κ))
    exact⟨_,rfl,⟨i2,_,xs,by simp[cT];rfl,by simpa using HP.out,by simpa using hE.out⟩,hK.put Agm _⟩
end Go.Proofs.YtmoeoppbmhfbpabGreatDoorG
