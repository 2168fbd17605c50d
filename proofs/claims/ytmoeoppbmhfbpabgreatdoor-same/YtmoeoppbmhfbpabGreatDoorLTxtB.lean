import Derived.Test.YtmoeoppbmhfbpabGreatDoorLEngR
import Derived.Test.YtmoeoppbmhfbpabGreatDoorLSpaE
set_option maxHeartbeats 32000000
set_option maxRecDepth 100000
set_option linter.all false
namespace Go.Proofs.YtmoeoppbmhfbpabGreatDoorL
open Go.Abs
theorem S6 {b c:UInt8}:((b.toNat:Int)==(c.toNat:Int))=decide (b=c):=by
 by_cases h:b=c
 ·subst h;simp
 ·rw[decide_eq_false h];have:b.toNat≠c.toNat:=fun e=>h (UInt8.toNat_inj.1 e);simpa using (by omega:¬(b.toNat:Int)=c.toNat)
theorem Zx {α:Type}{f:α->UInt8->α}{a:α}{t:Tx}{i:Nat}{c:UInt8}(h:t[i]?=some c):(t.take (i+1)).foldl f a=f ((t.take i).foldl f a) c:=by
 rw[Agz,h,Aia,Aif];rfl
theorem jA {t:Tx}{f i:Nat}{c:UInt8}(hf:f<=i)(h:t[i]?=some c):(t.drop f).take (i+1-f)=(t.drop f).take (i-f)++[c]:=by
 rw[show i+1-f=(i-f)+1 by omega,Agz,List.getElem?_drop,show f+(i-f)=i by omega,h];rfl
theorem Acn (t:Tx)(i:Nat):(t.drop i).take (i-i)=[]:=by simp
theorem bR (t:Tx)(ht:t.length<=1000000)(q:St):ACalls Tryz.prog 22 [str t] q fun r q'=>(∃id,r=sl id (Jo t).length ((Jo t).map str))/\Keep q q':=by
 refine Z9 37 [.tmp 2] Tryz.func22 ?_
 repeat' (first|refine Z1 ?_|(refine Z8 ?_;intro κ hκ)|(refine Z4 ?_;clear hκ κ)|(refine Z2 ?_ ?_<;>intro h ad<;>try exact Xp)|(refine Z6 ?_;intro idn qn ah ai af ab ae aa)|refine Z3 ?_|exact⟨⟩|(apply hκ.out;clear hκ κ))
 refine Af (fun m s q'=>∃(i f id:Nat) (d:List Tx),m=t.length-i/\i<=t.length/\f<=i/\s 0=str t/\s 3=sl id d.length (d.map str)/\s 4=sc (.int .i64 f)/\s 5=sc (.int .i64 i)/\Keep q q'/\Own q q' id d.length/\d.length<=i/\Ajs ((t.take i).foldl rW ([],[])=(d,(t.drop f).take (i-f)))) t.length
  ⟨0,0,1,[],Ajm,Ajm,Ajm,rfl,rfl,rfl,rfl,Keep.refl _,Own.nil _ _,by simp,by simp[Ajs]⟩ ?_
 rintro m s q' ⟨i,f,id,d,rfl,hi,hf,h0,h3,h4,h5,hK,hO,an,hF⟩;by_cases ak:i<t.length
 ·have ac:=List.getElem?_eq_getElem ak;generalize t[i]=c at ac;by_cases hc:c=46
  ·have hb:((c.toNat:Int)==46)=true:=by rw[hc];rfl
   have HF:Ajs ((t.take (i+1)).foldl rW ([],[])=(d++[(t.drop f).take (i+1-f)],(t.drop (i+1)).take (i+1-(i+1)))):=by
    rw[Ajs,Zx ac,hF.out,jA hf ac,Acn,hc];rfl
   clear hF hc
   repeat' (first|refine Z1 ?_|(refine Z8 ?_;intro κ hκ)|(refine Z4 ?_;clear hκ κ)|(refine Z2 ?_ ?_<;>intro h ad<;>try exact Xp)|(refine Z6 ?_;intro idn qn ah ai af ab ae aa)|refine Z3 ?_|exact⟨⟩|(apply hκ.out;clear hκ κ))
   refine⟨t.length-(i+1),Ajm,i+1,i+1,idn,d++[(t.drop f).take (i+1-f)],?_⟩
   ((repeat' with_reducible refine And.intro ?_ ?_)<;>first|exact Xq|exact (HF)|exact ((by simpa using ah))|exact Xs)
  ·have hb:((c.toNat:Int)==46)=false:=by rw[show (46:Int)=((46:UInt8).toNat:Int)from rfl,S6];simpa using hc
   have HF:Ajs ((t.take (i+1)).foldl rW ([],[])=(d,(t.drop f).take (i+1-f))):=by
    rw[Ajs,Zx ac,hF.out,jA hf ac,rW,if_neg hc]
   clear hF hc
   repeat' (first|refine Z1 ?_|(refine Z8 ?_;intro κ hκ)|(refine Z4 ?_;clear hκ κ)|(refine Z2 ?_ ?_<;>intro h ad<;>try exact Xp)|(refine Z6 ?_;intro idn qn ah ai af ab ae aa)|refine Z3 ?_|exact⟨⟩|(apply hκ.out;clear hκ κ))
   refine⟨t.length-(i+1),Ajm,i+1,f,id,d,?_⟩
   ((repeat' with_reducible refine And.intro ?_ ?_)<;>first|exact Xq|exact (HF)|exact Xs)
 ·have hil:i=t.length:=Ajm;subst hil;have aj:=hF.out;rw[Agw,Ahu (by simp)]at aj;by_cases am:f<t.length
  ·have HP:Ajs (Jo t=d++[t.drop f]):=by
    rw[Ajs,Jo,aj,if_neg (by intro e;have:=congrArg List.length e;simp at this;omega)]
   clear hF aj
   repeat' (first|refine Z1 ?_|(refine Z8 ?_;intro κ hκ)|(refine Z4 ?_;clear hκ κ)|(refine Z2 ?_ ?_<;>intro h ad<;>try exact Xp)|(refine Z6 ?_;intro idn qn ah ai af ab ae aa)|refine Z3 ?_|exact⟨⟩|(apply hκ.out;clear hκ κ))
   first|refine⟨_,rfl,⟨idn,?_⟩,ai⟩|refine⟨_,rfl,idn,?_⟩
   rw[HP.out];simp
   try rw[Ahu (by simp)]
  ·have HP:Ajs (Jo t=d):=by
    rw[Ajs,Jo,aj,if_pos (by apply Agu;simp;omega)]
   clear hF aj
   repeat' (first|refine Z1 ?_|(refine Z8 ?_;intro κ hκ)|(refine Z4 ?_;clear hκ κ)|(refine Z2 ?_ ?_<;>intro h ad<;>try exact Xp)|(refine Z6 ?_;intro idn qn ah ai af ab ae aa)|refine Z3 ?_|exact⟨⟩|(apply hκ.out;clear hκ κ))
   first|exact⟨_,rfl,⟨id,by rw[HP.out]⟩,hK⟩|exact⟨_,rfl,id,by rw[HP.out]⟩
theorem iH (t:Tx)(c:UInt8)(ht:t.length<=100000)(q:St):ACalls Tryz.prog 28 [str t,sc (.int .u8 c.toNat)] q fun r q'=>r=sc (.int .i64 (t.count c:Nat))/\q'=q:=by
 refine Z9 21 [.tmp 4] Tryz.func28 ?_
 repeat' (first|refine Z1 ?_|(refine Z8 ?_;intro κ hκ)|(refine Z4 ?_;clear hκ κ)|(refine Z2 ?_ ?_<;>intro h ab<;>try exact Xp)|refine Z3 ?_|exact⟨⟩|(apply hκ.out;clear hκ κ))
 refine Af (fun m s q'=>∃i n:Nat,m=t.length-i/\i<=t.length/\n<=i/\s 0=str t/\s 1=sc (.int .u8 c.toNat)/\s 5=sc (.int .i64 n)/\s 6=sc (.int .i64 i)/\q'=q/\Ajs ((t.take i).count c=n)) t.length
  ⟨0,0,Ajm,Ajm,Ajm,rfl,rfl,rfl,rfl,rfl,by simp[Ajs]⟩ ?_
 rintro m s q' ⟨i,n,rfl,hi,hn,h0,h1,h5,h6,hq,hC⟩;by_cases ad:i<t.length
 ·have ac:=List.getElem?_eq_getElem ad;generalize t[i]=b at ac;have aa:(t.take (i+1)).count c=(t.take i).count c+if b=c then 1 else 0:=by
   rw[Agz,ac,Aia,List.count_append,List.count_singleton];simp
  by_cases hc:b=c
  ·have hb:((b.toNat:Int)==(c.toNat:Int))=true:=by rw[hc];simp
   have HC:Ajs ((t.take (i+1)).count c=n+1):=by rw[Ajs,aa,if_pos hc,hC.out]
   clear hC hc aa
   repeat' (first|refine Z1 ?_|(refine Z8 ?_;intro κ hκ)|(refine Z4 ?_;clear hκ κ)|(refine Z2 ?_ ?_<;>intro h ab<;>try exact Xp)|refine Z3 ?_|exact⟨⟩|(apply hκ.out;clear hκ κ))
   refine⟨t.length-(i+1),Ajm,i+1,n+1,?_⟩
   ((repeat' with_reducible refine And.intro ?_ ?_)<;>first|exact Xq|exact (HC)|exact Xs)
  ·have hb:((b.toNat:Int)==(c.toNat:Int))=false:=by rw[S6];simpa using hc
   have HC:Ajs ((t.take (i+1)).count c=n):=by rw[Ajs,aa,if_neg hc,hC.out];rfl
   clear hC hc aa
   repeat' (first|refine Z1 ?_|(refine Z8 ?_;intro κ hκ)|(refine Z4 ?_;clear hκ κ)|(refine Z2 ?_ ?_<;>intro h ab<;>try exact Xp)|refine Z3 ?_|exact⟨⟩|(apply hκ.out;clear hκ κ))
   refine⟨t.length-(i+1),Ajm,i+1,n,?_⟩
   ((repeat' with_reducible refine And.intro ?_ ?_)<;>first|exact Xq|exact (HC)|exact Xs)
 ·have hil:i=t.length:=Ajm;have HC:Ajs (t.count c=n):=by
   rw[Ajs];have:=hC.out;rw[hil,Agw]at this;exact this
  clear hC
  repeat' (first|refine Z1 ?_|(refine Z8 ?_;intro κ hκ)|(refine Z4 ?_;clear hκ κ)|(refine Z2 ?_ ?_<;>intro h ab<;>try exact Xp)|refine Z3 ?_|exact⟨⟩|(apply hκ.out;clear hκ κ))
  first|exact⟨_,rfl,by rw[HC.out],by assumption⟩|exact⟨_,rfl,by rw[HC.out]⟩
theorem dQ {w:Tx}(h:UT w)(q:St):ACalls Tryz.prog 149 [ag [sc (.bool (Al w).1),sc (.int .i64 (Al w).2)]] q fun r q'=>r=str w/\Keep q q':=by
 have:=dR (Al w) h.dec.2 q;rwa[h.dec.1]at this
theorem aL (N:List Tx)(idn ids:Nat)(a:RAtom)(ha:a.pred∈N)(hN:N.length<=2000)(hn:a.terms.length<=1000)(hpl:a.pred.length<=1000)(hw:∀t∈a.terms,UT t)(q:St):
  ACalls Tryz.prog 265 [ag [sc (.int .i64 (N.idxOf a.pred:Nat)),sl ids a.terms.length (Aw a.terms)],sl idn N.length (N.map str)] q fun r q'=>r=sc (.int .i64 ((A7 a).length:Nat))/\Keep q q':=by
 have au:=Eu a.terms;have aj:=Ah9 ha;have an:(N.map str).drop (N.idxOf a.pred)=str a.pred::(N.map str).drop (N.idxOf a.pred+1):=by
  have:=E0 aj;rwa[Ah8 aj]at this
 generalize N.idxOf a.pred=ix at aj an;refine Z9 34 [.tmp 4] Tryz.func265 ?_
 repeat' (first|refine Z1 ?_|(refine Z8 ?_;intro κ hκ)|(refine Z4 ?_;clear hκ κ)|(refine Z2 ?_ ?_<;>intro h ab<;>try exact Xp)|refine Z3 ?_|exact⟨⟩|(apply hκ.out;clear hκ κ))
 refine Af (fun m s q'=>∃(k n:Nat),m=a.terms.length-k/\k<=a.terms.length/\s 5=sc (.int .i64 n)/\s 16=sl ids a.terms.length (Aw a.terms)/\s 17=sc (.int .i64 a.terms.length)/\s 18=sc (.int .i64 k)/\Keep q q'/\n<=1002+k*1001/\Ajs (n=a.pred.length+2+(Bl (a.terms.take k)).length)) a.terms.length
  ⟨0,a.pred.length+2,Ajm,Ajm,Ajo,Ajo,Ajo,rfl,Xs,Ajm,by simp[Ajs,Bl]⟩ ?_
 rintro m s q' ⟨k,n,rfl,hk,h5,ay,ax,aw,hK,av,hA⟩;have ao:=hK.nobj;by_cases af:k<a.terms.length
 ·have aa:=List.getElem?_eq_getElem af;have hu:=hw a.terms[k] (Ah6 af);obtain⟨r,hd⟩:=Fz aa;generalize a.terms[k]=w at aa hu hd;have ad:Ajs (a.pred.length+2+(Bl (a.terms.take (k+1))).length=n+((if k=0 then 0 else 1)+w.length)):=by
   rw[Ajs,Agz,aa,Aia,Tq,hA.out];have e:(a.terms.take k=[])↔k=0:=by
    rw[List.take_eq_nil_iff];constructor
    ·rintro (h|h)
     ·exact h
     ·rw[h]at af;cases af
    ·exact .inl
   by_cases h0:k=0
   ·rw[if_pos (e.2 h0),if_pos h0];simp;omega
   ·rw[if_neg (fun h=>h0 (e.1 h)),if_neg h0];simp;omega
  have hT:=fun q=>dQ hu q;have ap:=hu.2.2.1;clear aa hA hu;by_cases ae:k=0
  ·have am:decide ((0:Int)<(k:Int))=false:=by simp[ae]
   have ad:Ajs (n+w.length=a.pred.length+2+(Bl (a.terms.take (k+1))).length):=by rw[Ajs,ad.out,if_pos ae];omega
   clear ae
   repeat' (first|refine Z1 ?_|(refine Z8 ?_;intro κ hκ)|(refine Z4 ?_;clear hκ κ)|(refine Z2 ?_ ?_<;>intro h ab<;>try exact Xp)|(refine Z5 ?_;refine Xi (hT _) ?_;rintro _ _ ⟨rfl,ac⟩;(have ah:=ac.obj;have ai:=ac.nobj))|refine Z3 ?_|exact⟨⟩|(apply hκ.out;clear hκ κ))
   refine⟨a.terms.length-(k+1),Ajm,k+1,n+w.length,?_⟩
   ((repeat' with_reducible refine And.intro ?_ ?_)<;>first|exact Xq|exact (((hK.new _).put hK.nobj _).trans ac)|exact (ad)|exact Xs)
  ·have am:decide ((0:Int)<(k:Int))=true:=by simp;omega
   have ad:Ajs (n+1+w.length=a.pred.length+2+(Bl (a.terms.take (k+1))).length):=by rw[Ajs,ad.out,if_neg ae];omega
   clear ae
   repeat' (first|refine Z1 ?_|(refine Z8 ?_;intro κ hκ)|(refine Z4 ?_;clear hκ κ)|(refine Z2 ?_ ?_<;>intro h ab<;>try exact Xp)|(refine Z5 ?_;refine Xi (hT _) ?_;rintro _ _ ⟨rfl,ac⟩;(have ah:=ac.obj;have ai:=ac.nobj))|refine Z3 ?_|exact⟨⟩|(apply hκ.out;clear hκ κ))
   refine⟨a.terms.length-(k+1),Ajm,k+1,n+1+w.length,?_⟩
   ((repeat' with_reducible refine And.intro ?_ ?_)<;>first|exact Xq|exact (((hK.new _).put hK.nobj _).trans ac)|exact (ad)|exact Xs)
 ·have ak:k=a.terms.length:=Ajm;subst ak;have HA:Ajs ((A7 a).length=n):=by
   rw[Ajs,hA.out,Agw];simp[A7];omega
  clear hA
  repeat' (first|refine Z1 ?_|(refine Z8 ?_;intro κ hκ)|(refine Z4 ?_;clear hκ κ)|(refine Z2 ?_ ?_<;>intro h ab<;>try exact Xp)|refine Z3 ?_|exact⟨⟩|(apply hκ.out;clear hκ κ))
  first
  |exact⟨_,rfl,by rw[HA.out],hK⟩
  |exact⟨_,rfl,by rw[HA.out]⟩
structure Msr (N:List Tx)(x:RItem):Prop where
 out:x.out=true->x.body=[]
 body:x.body.length<=1000
 mem:x.head.pred∈N
 hpl:x.head.pred.length<=1000
 at_:∀a∈Ae x,a.terms.length<=3/\a.pred.length<=1000/\∀t∈a.terms,UT t
theorem kQ {ts:List Tx}(h:ts.length<=3)(g:∀t∈ts,UT t):(Bl ts).length<=4000:=by
 have key:∀ts:List Tx,(∀t∈ts,UT t)->(B6 ts).length<=ts.length*1001:=by
  intro ts;induction ts with
  |nil=>intro _;simp[B6]
  |cons t ts ih=>
   intro h;have h1:=ih fun u hu=>h u (by simp[hu]);have h2:=(h t (by simp)).2.2.1;unfold B6 at*
   simp only[Ah3,Aha,Ahj];omega
 cases ts with
 |nil=>simp[Bl]
 |cons t ts=>
  have h1:=key ts fun u hu=>g u (by simp[hu]);have h2:=(g t (by simp)).2.2.1;simp only[Ahj]at h;rw[Bl,Aha];omega
theorem Mo {a:RAtom}(h:a.terms.length<=3/\a.pred.length<=1000/\∀t∈a.terms,UT t):(A7 a).length<=6000:=by
 have:=kQ h.1 h.2.2;have:=h.2.1;simp[A7];omega
def Sf (ls:List RAtom)(k:Nat):Nat:=if k=0 then 0 else 2+(Bl ((ls.take k).map B9)).length
theorem sR {ls:List RAtom}{k:Nat}{a:RAtom}(h:ls[k]?=some a):Sf ls (k+1)=Sf ls k+(if k=0 then 1 else 0)+(if a.nt=true then 1 else 0)+(1+(A7 a).length):=by
 unfold Sf;rw[if_neg Ajm,Agz,h,Aia,Ag1,List.map_singleton,Tq];have hk:=(List.getElem?_eq_some_iff.1 h).1;have aa:(B9 a).length=(if a.nt=true then 1 else 0)+(A7 a).length:=by unfold B9;split<;>simp;omega
 by_cases h0:k=0
 ·subst h0;simp only[List.take_zero,Ag6,if_true,Ahq,Bl,Ahi,aa];omega
 ·have e:(ls.take k).map B9≠[]:=fun e=>by
   have:=congrArg List.length e;simp at this;rcases this with h|h
   ·exact h0 h
   ·rw[h]at hk;cases hk
  rw[if_neg h0,if_neg h0,if_neg e];simp only[Aha,Ah1,aa];omega
theorem sV (N:List Tx)(idn:Nat)(x:RItem)(c:List AV)(hc:PI N x c)(hN:N.length<=2000)(hm:Msr N x)(q:St):
  ACalls Tryz.prog 243 [ag c,sl idn N.length (N.map str)] q fun r q'=>r=sc (.int .i64 ((Be x++[46]).length:Nat))/\Keep q q':=by
 obtain⟨ay,ih,id,b,hb,rfl⟩:=hc;have bb:=EL.length Dt hb;have bc:=hm.body;have ba:=hm.hpl;have an:=Ah9 ay;have a0:(N.map str).drop (N.idxOf x.head.pred)=str x.head.pred::(N.map str).drop (N.idxOf x.head.pred+1):=by
  have:=E0 an;rwa[Ah8 an]at this
 cases ap:x.out with
 |true=>
  have HL:Ajs (((Be x++[46]).length:Nat)=2+x.head.pred.length):=by
   rw[Ajs,Be,if_pos ap];simp;omega
  clear hm;generalize N.idxOf x.head.pred=ix at an a0;refine Z9 48 [.tmp 4] Tryz.func243 ?_
  repeat' (first|refine Z1 ?_|(refine Z8 ?_;intro κ hκ)|(refine Z4 ?_;clear hκ κ)|(refine Z2 ?_ ?_<;>intro h ad<;>try exact Xp)|refine Z3 ?_|exact⟨⟩|(apply hκ.out;clear hκ κ))
  exact⟨_,rfl,by rw[HL.out];simp,Xs⟩
 |false=>
  have av:=hm.at_;have hh:=av x.head (Au (.inl ⟨ap,rfl⟩));have ao:=fun ids q=>aL N idn ids x.head ay hN Ajm hh.2.1 hh.2.2 q;have au:=Mo hh;have HL:Ajs ((Be x++[46]).length=(A7 x.head).length+1+Sf x.body x.body.length):=by
   rw[Ajs,Be,if_neg (by simp[ap]),Di,Sf,Agw];by_cases he:x.body=[]
   ·simp[he]
   ·have a4:x.body.length≠0:=fun e=>he (Agu e);rw[if_neg he,if_neg a4];simp;omega
  have a7:∀a∈x.body,a.terms.length<=3/\a.pred.length<=1000/\∀t∈a.terms,UT t:=fun a ha=>av a (Au (.inr ha));clear hm av hh;generalize N.idxOf x.head.pred=ix at an a0 ao;generalize (A7 x.head).length=hn at ao au HL;refine Z9 48 [.tmp 4] Tryz.func243 ?_
  repeat' (first|refine Z1 ?_|(refine Z8 ?_;intro κ hκ)|(refine Z4 ?_;clear hκ κ)|(refine Z2 ?_ ?_<;>intro h ad<;>try exact Xp)|(refine Z5 ?_;refine Xi (ao _ _) ?_;rintro _ _ ⟨rfl,ax⟩;(have ak:=ax.nobj;have aj:=ax.obj;simp only[Aa]at ak aj))|refine Z3 ?_|exact⟨⟩|(apply hκ.out;clear hκ κ))
  rename_i q1
  refine Af (fun m s q'=>∃(k n:Nat),m=x.body.length-k/\k<=x.body.length/\s 1=sl idn N.length (N.map str)/\s 5=sc (.int .i64 n)/\s 24=sl id x.body.length b/\s 25=sc (.int .i64 x.body.length)/\s 26=sc (.int .i64 k)/\Keep q q'/\n<=6001+k*7000/\Ajs (n=hn+1+Sf x.body k)) x.body.length
   ⟨0,hn+1,Ajm,Ajm,rfl,Ajo,Ajo,Ajo,rfl,Xs,Ajm,by simp[Ajs,Sf]⟩ ?_
  clear ak aj ax ao;rintro m s q' ⟨k,n,rfl,hk,h1,h5,bf,be,bd,hK,a9,hA⟩;have a8:=hK.nobj;by_cases az:k<x.body.length
  ·have af:=List.getElem?_eq_getElem az;have am:=a7 x.body[k] (Ah6 az);obtain⟨c0,r,⟨a3,ida,rfl⟩,hd⟩:=EL.get Dt hb af;generalize x.body[k]=a at af am hd a3;have ai:=fun ids q=>aL N idn ids a a3 hN Ajm am.2.1 am.2.2 q;have aw:=Mo am;have ac:Ajs (hn+1+Sf x.body (k+1)=n+((if k=0 then 1 else 0)+(if a.nt=true then 1 else 0)+(1+(A7 a).length))):=by
    rw[Ajs,sR af,hA.out];omega
   clear af hA am;generalize (A7 a).length=la at ai aw ac;generalize N.idxOf a.pred=ia at ai hd;simp only[Aho,Ahq]at hd;by_cases ae:k=0
   ·have a6:((k:Int)==0)=true:=by simp[ae]
    cases hnt:a.nt with
    |true=>
     rw[hnt]at hd;have ac:Ajs (n+(1+la)+1+1=hn+1+Sf x.body (k+1)):=by rw[Ajs,ac.out,if_pos ae,if_pos hnt];omega
     clear ae hnt
     repeat' (first|refine Z1 ?_|(refine Z8 ?_;intro κ hκ)|(refine Z4 ?_;clear hκ κ)|(refine Z2 ?_ ?_<;>intro h ad<;>try exact Xp)|(refine Z5 ?_;refine Xi (ai _ _) ?_;rintro _ _ ⟨rfl,ab⟩;(have ah:=ab.obj;have aa:=ab.nobj;simp only[Ab,Aa]at aa))|refine Z3 ?_|exact⟨⟩|(apply hκ.out;clear hκ κ))
     refine⟨x.body.length-(k+1),Ajm,k+1,n+(1+la)+1+1,?_⟩
     ((repeat' with_reducible refine And.intro ?_ ?_)<;>first|exact Xq|exact (((hK.new _).put hK.nobj _).trans ab)|exact (ac)|exact Xs)
    |false=>
     rw[hnt]at hd;have ac:Ajs (n+(1+la)+1=hn+1+Sf x.body (k+1)):=by rw[Ajs,ac.out,if_pos ae,if_neg (by simp[hnt])];omega
     clear ae hnt
     repeat' (first|refine Z1 ?_|(refine Z8 ?_;intro κ hκ)|(refine Z4 ?_;clear hκ κ)|(refine Z2 ?_ ?_<;>intro h ad<;>try exact Xp)|(refine Z5 ?_;refine Xi (ai _ _) ?_;rintro _ _ ⟨rfl,ab⟩;(have ah:=ab.obj;have aa:=ab.nobj;simp only[Ab,Aa]at aa))|refine Z3 ?_|exact⟨⟩|(apply hκ.out;clear hκ κ))
     refine⟨x.body.length-(k+1),Ajm,k+1,n+(1+la)+1,?_⟩
     ((repeat' with_reducible refine And.intro ?_ ?_)<;>first|exact Xq|exact (((hK.new _).put hK.nobj _).trans ab)|exact (ac)|exact Xs)
   ·have a6:((k:Int)==0)=false:=by simp;omega
    cases hnt:a.nt with
    |true=>
     rw[hnt]at hd;have ac:Ajs (n+(1+la)+1=hn+1+Sf x.body (k+1)):=by rw[Ajs,ac.out,if_neg ae,if_pos hnt];omega
     clear ae hnt
     repeat' (first|refine Z1 ?_|(refine Z8 ?_;intro κ hκ)|(refine Z4 ?_;clear hκ κ)|(refine Z2 ?_ ?_<;>intro h ad<;>try exact Xp)|(refine Z5 ?_;refine Xi (ai _ _) ?_;rintro _ _ ⟨rfl,ab⟩;(have ah:=ab.obj;have aa:=ab.nobj;simp only[Ab,Aa]at aa))|refine Z3 ?_|exact⟨⟩|(apply hκ.out;clear hκ κ))
     refine⟨x.body.length-(k+1),Ajm,k+1,n+(1+la)+1,?_⟩
     ((repeat' with_reducible refine And.intro ?_ ?_)<;>first|exact Xq|exact (((hK.new _).put hK.nobj _).trans ab)|exact (ac)|exact Xs)
    |false=>
     rw[hnt]at hd;have ac:Ajs (n+(1+la)=hn+1+Sf x.body (k+1)):=by rw[Ajs,ac.out,if_neg ae,if_neg (by simp[hnt])];omega
     clear ae hnt
     repeat' (first|refine Z1 ?_|(refine Z8 ?_;intro κ hκ)|(refine Z4 ?_;clear hκ κ)|(refine Z2 ?_ ?_<;>intro h ad<;>try exact Xp)|(refine Z5 ?_;refine Xi (ai _ _) ?_;rintro _ _ ⟨rfl,ab⟩;(have ah:=ab.obj;have aa:=ab.nobj;simp only[Ab,Aa]at aa))|refine Z3 ?_|exact⟨⟩|(apply hκ.out;clear hκ κ))
     refine⟨x.body.length-(k+1),Ajm,k+1,n+(1+la),?_⟩
     ((repeat' with_reducible refine And.intro ?_ ?_)<;>first|exact Xq|exact (((hK.new _).put hK.nobj _).trans ab)|exact (ac)|exact Xs)
  ·have a5:k=x.body.length:=Ajm;subst a5;have HA:Ajs ((Be x++[46]).length=n):=by rw[Ajs,HL.out,hA.out]
   clear hA HL
   repeat' (first|refine Z1 ?_|(refine Z8 ?_;intro κ hκ)|(refine Z4 ?_;clear hκ κ)|(refine Z2 ?_ ?_<;>intro h ad<;>try exact Xp)|refine Z3 ?_|exact⟨⟩|(apply hκ.out;clear hκ κ))
   first
   |exact⟨_,rfl,by rw[HA.out],hK⟩
   |exact⟨_,rfl,by rw[HA.out]⟩
def H8 (l:List RItem):Bool:=decide (l.length<=16)&&(l.all (fun x=>decide (x.body.length<=5))&&decide ((Bv l).length<=600))
theorem rE {N:List Tx}{x:RItem}(h:Msr N x):(Be x++[46]).length<=8000000:=by
 have h1:=h.hpl;cases aa:x.out with
 |true=>rw[Be,if_pos aa];simp;omega
 |false=>
  have hh:=Mo (h.at_ x.head (Au (.inl ⟨aa,rfl⟩)));have hl:∀ls:List RAtom,(∀a∈ls,a.terms.length<=3/\a.pred.length<=1000/\∀t∈a.terms,UT t)->(B6 (ls.map B9)).length<=ls.length*6002:=by
   intro ls;induction ls with
   |nil=>intro _;simp[B6]
   |cons a ls ih=>
    intro g;have h1:=ih fun b hb=>g b (by simp[hb]);have h2:=Mo (g a (by simp));have h3:(B9 a).length<=6001:=by unfold B9;split<;>simp<;>omega
    unfold B6 at*
    simp only[Ag5,Ah3,Aha,Ahj];omega
  have hu:(Bl (x.body.map B9)).length<=x.body.length*6002:=by
   have:=hl x.body fun a ha=>h.at_ a (Au (.inr ha));cases hb:x.body with
   |nil=>simp[Bl]
   |cons a ls=>
    rw[hb]at this;have e:B6 ((a::ls).map B9)=44::Bl ((a::ls).map B9):=by simp[B6,Bl]
    rw[e]at this;simp only[Ahj]at this⊢;omega
  have hb:=h.body;rw[Be,if_neg (by simp[aa]),Di];split<;>simp<;>omega
def PJ (N:List Tx)(x:RItem)(c:List AV):Prop:=(PI N x c/\Msr N x)\/(5<x.body.length/\x.body.length<=1000/\∃(o:Bool) (p:Int) (ih n1:Nat) (tc:List AV) (ib:Nat) (b:List AV),c=[sc (.bool o),sc (.int .i64 p),sl ih n1 tc,sl ib x.body.length b])
theorem Aag {N:List Tx}(x:RItem)(c:List AV)(h:PJ N x c):c.length=4:=by
 rcases h with⟨h,-⟩|⟨-,-,_,_,_,_,_,_,_,rfl⟩
 ·exact De x c h
 ·rfl
theorem Ow {α:Type}{E E':α->List AV->Prop}:∀{l:List α} {cs:List AV},EL E l cs->(∀a∈l,∀c,E a c->E' a c)->EL E' l cs
 |[],_,h,_=>h
 |a::l,_,⟨c,d,h1,h2,e⟩,g=>⟨c,d,g a (by simp) c h1,Ow h2 (fun b hb=>g b (by simp[hb])),e⟩
theorem W5 (N:List Tx)(l:List RItem)(cs:List AV)(idn idi:Nat)(hE:EL (PJ N) l cs)(hN:N.length<=2000)(hl:l.length<=1000)(q:St):ACalls Tryz.prog 207 [Bo N idn l idi cs] q fun r q'=>r=sc (.bool (H8 l))/\Keep q q':=by
 have aw:=EL.length Aag hE;by_cases ay:16<l.length
 ·have hb:decide ((16:Int)<(l.length:Int))=true:=by simp;omega
  have HL:Ajs (H8 l=false):=by rw[Ajs,H8,decide_eq_false Ajm];rfl
  refine Z9 30 [.tmp 2] Tryz.func207 ?_
  repeat' (first|refine Z1 ?_|(refine Z8 ?_;intro κ hκ)|(refine Z4 ?_;clear hκ κ)|(refine Z2 ?_ ?_<;>intro h ab<;>try exact Xp)|refine Z3 ?_|exact⟨⟩|(apply hκ.out;clear hκ κ))
  exact⟨_,rfl,by rw[HL.out],Xs⟩
 ·have hb:decide ((16:Int)<(l.length:Int))=false:=by simp;omega
  refine Z9 30 [.tmp 2] Tryz.func207 ?_
  repeat' (first|refine Z1 ?_|(refine Z8 ?_;intro κ hκ)|(refine Z4 ?_;clear hκ κ)|(refine Z2 ?_ ?_<;>intro h ab<;>try exact Xp)|refine Z3 ?_|exact⟨⟩|(apply hκ.out;clear hκ κ))
  refine Af (fun m s q'=>∃(i n:Nat),m=l.length-i/\i<=l.length/\s 1=ptr q.nobj 0/\s 3=sc (.int .i64 n)/\s 11=sl idi l.length cs/\s 12=sc (.int .i64 l.length)/\s 13=sc (.int .i64 i)/\Keep q q'/\q.nobj<q'.nobj/\q'.obj q.nobj=[sl idn N.length (N.map str),sl idi l.length cs]/\n<=i*8000000/\Ajs (n=(Bv (l.take i)).length/\∀x∈l.take i,x.body.length<=5)) l.length
   ⟨0,0,Ajm,Ajm,Ajo,Ajo,Ajo,Ajo,rfl,Xs,Ajq,Ap,by simp,by simp[Ajs,Bv]⟩ ?_
  rintro m s q' ⟨i,n,rfl,hi,h1,h3,a3,a0,az,hK,au,ak,av,hA⟩;have ap:=hK.nobj;by_cases am:i<l.length
  ·have aa:=List.getElem?_eq_getElem am;obtain⟨c,r,ac,hd⟩:=EL.get Aag hE aa;generalize l[i]=x at hd aa ac;have an:∃(o:Bool) (p:Int) (ih n1:Nat) (tc:List AV) (ib:Nat) (b:List AV),c=[sc (.bool o),sc (.int .i64 p),sl ih n1 tc,sl ib x.body.length b]:=by
    rcases ac with⟨⟨-,ih,id,b,-,rfl⟩,-⟩|⟨-,-,h⟩
    ·exact⟨_,_,_,_,_,_,_,rfl⟩
    ·exact h
   have ax:x.body.length<=1000:=by
    rcases ac with⟨-,h⟩|⟨-,h,-⟩
    ·exact h.body
    ·exact h
   obtain⟨xo,xp,ih,xn,xt,id,b,rfl⟩:=an;simp only[Aho,Ahq]at hd;by_cases h5:5<x.body.length
   ·have ao:decide ((5:Int)<(x.body.length:Int))=true:=by simp;omega
    have HL:Ajs (H8 l=false):=by
     have:l.all (fun x=>decide (x.body.length<=5))=false:=by
      rw[Aix];exact⟨x,Agp aa,by simp;omega⟩
     rw[Ajs,H8,this];simp
    clear aa hA ac
    repeat' (first|refine Z1 ?_|(refine Z8 ?_;intro κ hκ)|(refine Z4 ?_;clear hκ κ)|(refine Z2 ?_ ?_<;>intro h ab<;>try exact Xp)|refine Z3 ?_|exact⟨⟩|(apply hκ.out;clear hκ κ))
    exact⟨_,rfl,by rw[HL.out],Xs⟩
   ·obtain⟨ah,hw⟩:=ac.resolve_right (fun h=>h5 h.1);have ai:=fun q=>sV N idn x _ ah hN hw q;have aj:=rE hw;clear ac ah;have ao:decide ((5:Int)<(x.body.length:Int))=false:=by simp;omega
    have HA:Ajs (n+(Be x++[46]).length=(Bv (l.take (i+1))).length/\∀x∈l.take (i+1),x.body.length<=5):=by
     rw[Ajs,Agz,aa,Aia,hA.out.1];refine⟨by simp[Bv],fun y hy=>?_⟩;rcases Ahs.1 hy with hy|hy
     ·exact hA.out.2 y hy
     ·simp at hy;subst hy;omega
    clear aa hA hw h5;generalize (Be x++[46]).length=xl at ai aj HA
    repeat' (first|refine Z1 ?_|(refine Z8 ?_;intro κ hκ)|(refine Z4 ?_;clear hκ κ)|(refine Z2 ?_ ?_<;>intro h ab<;>try exact Xp)|(refine Z5 ?_;refine Xi (ai _) ?_;rintro _ _ ⟨rfl,af⟩;(have ae:=af.nobj;have ad:=af.obj;simp only[Ab,Aa]at ae ad))|refine Z3 ?_|exact⟨⟩|(apply hκ.out;clear hκ κ))
    refine⟨l.length-(i+1),Ajm,i+1,n+xl,?_⟩
    ((repeat' with_reducible refine And.intro ?_ ?_)<;>first|exact Xq|exact (((hK.new _).put hK.nobj _).trans af)|exact (HA)|exact (by rw[ad _ Ajm,Ai Ajm,Ag Ajm,ak])|exact Xs)
  ·have hil:i=l.length:=Ajm;subst hil;have HL:Ajs (H8 l=decide ((n:Int)<=600)):=by
    have h:=hA.out;rw[Agw]at h;rw[Ajs,H8,decide_eq_true Ajm,Ago.2 (fun x hx=>decide_eq_true (h.2 x hx)),<-h.1];simp only[Ahy];congr 1;apply propext;omega
   clear hA
   repeat' (first|refine Z1 ?_|(refine Z8 ?_;intro κ hκ)|(refine Z4 ?_;clear hκ κ)|(refine Z2 ?_ ?_<;>intro h ab<;>try exact Xp)|refine Z3 ?_|exact⟨⟩|(apply hκ.out;clear hκ κ))
   first
   |exact⟨_,rfl,by rw[HL.out],hK⟩
   |exact⟨_,rfl,by rw[HL.out]⟩
def Cg (N:List Tx)(l:List RItem)(k:Nat):Bool:=l.any fun x=>!x.out&&decide (N.idxOf x.head.pred=k)
theorem Qb {α:Type}{l:List α}{f:α->Bool}{i:Nat}{x:α}(h:(l.take i).any f=false)(hi:l[i]?=some x)(hx:f x=false):(l.take (i+1)).any f=false:=by
 rw[Agz,hi,Aia,Aiz,h];simp[hx]
theorem cR {α:Type}{l:List α}{f:α->Bool}{i:Nat}{x:α}(hi:l[i]?=some x)(hx:f x=true):l.any f=true:=Ahk.2 ⟨x,Agp hi,hx⟩
theorem L0 (N:List Tx)(l:List RItem)(cs:List AV)(idn idi k:Nat)(hE:EL (PI N) l cs)(hl:l.length<=1000)(q:St):ACalls Tryz.prog 134 [Bo N idn l idi cs,sc (.int .i64 k)] q fun r q'=>r=sc (.bool (Cg N l k))/\Keep q q':=by
 have aj:=EL.length De hE;refine Z9 25 [.tmp 4] Tryz.func134 ?_
 repeat' (first|refine Z1 ?_|(refine Z8 ?_;intro κ hκ)|(refine Z4 ?_;clear hκ κ)|(refine Z2 ?_ ?_<;>intro h ab<;>try exact Xp)|refine Z3 ?_|exact⟨⟩|(apply hκ.out;clear hκ κ))
 refine Af (fun m s q'=>∃(i:Nat),m=l.length-i/\i<=l.length/\s 1=sc (.int .i64 k)/\s 8=sl idi l.length cs/\s 9=sc (.int .i64 l.length)/\s 10=sc (.int .i64 i)/\Keep q q'/\Ajs (Cg N (l.take i) k=false)) l.length
  ⟨0,Ajm,Ajm,rfl,Ajo,Ajo,rfl,Xs,by simp[Ajs,Cg]⟩ ?_
 rintro m s q' ⟨i,rfl,hi,h1,h8,h9,ak,hK,hA⟩;have ai:=hK.nobj;by_cases af:i<l.length
 ·have aa:=List.getElem?_eq_getElem af;obtain⟨ae,ih,id,b,r,ah,hd⟩:=En hE aa;generalize l[i]=x at hd aa ae ah;cases ac:x.out with
  |true=>
   rw[ac]at hd;have HA:Ajs (Cg N (l.take (i+1)) k=false):=Qb hA.out aa (by simp[ac]);clear aa hA ac
   repeat' (first|refine Z1 ?_|(refine Z8 ?_;intro κ hκ)|(refine Z4 ?_;clear hκ κ)|(refine Z2 ?_ ?_<;>intro h ab<;>try exact Xp)|refine Z3 ?_|exact⟨⟩|(apply hκ.out;clear hκ κ))
   refine⟨l.length-(i+1),Ajm,i+1,?_⟩
   ((repeat' with_reducible refine And.intro ?_ ?_)<;>first|exact Xq|exact (HA)|exact Xs)
  |false=>
   rw[ac]at hd;by_cases hk:N.idxOf x.head.pred=k
   ·have ad:(((N.idxOf x.head.pred:Nat):Int)==(k:Int))=true:=by simp[hk]
    have HA:Ajs (Cg N l k=true):=cR aa (by simp[ac,hk]);clear aa hA ac hk;generalize N.idxOf x.head.pred=ix at hd ad
    repeat' (first|refine Z1 ?_|(refine Z8 ?_;intro κ hκ)|(refine Z4 ?_;clear hκ κ)|(refine Z2 ?_ ?_<;>intro h ab<;>try exact Xp)|refine Z3 ?_|exact⟨⟩|(apply hκ.out;clear hκ κ))
    exact⟨_,rfl,by rw[HA.out],Xs⟩
   ·have ad:(((N.idxOf x.head.pred:Nat):Int)==(k:Int))=false:=by simpa using (by omega:¬((N.idxOf x.head.pred:Nat):Int)=k)
    have HA:Ajs (Cg N (l.take (i+1)) k=false):=Qb hA.out aa (by simp[hk]);clear aa hA ac hk;generalize N.idxOf x.head.pred=ix at hd ad
    repeat' (first|refine Z1 ?_|(refine Z8 ?_;intro κ hκ)|(refine Z4 ?_;clear hκ κ)|(refine Z2 ?_ ?_<;>intro h ab<;>try exact Xp)|refine Z3 ?_|exact⟨⟩|(apply hκ.out;clear hκ κ))
    refine⟨l.length-(i+1),Ajm,i+1,?_⟩
    ((repeat' with_reducible refine And.intro ?_ ?_)<;>first|exact Xq|exact (HA)|exact Xs)
 ·have hil:i=l.length:=Ajm;subst hil;rw[Agw]at hA
  repeat' (first|refine Z1 ?_|(refine Z8 ?_;intro κ hκ)|(refine Z4 ?_;clear hκ κ)|(refine Z2 ?_ ?_<;>intro h ab<;>try exact Xp)|refine Z3 ?_|exact⟨⟩|(apply hκ.out;clear hκ κ))
  first
  |exact⟨_,rfl,by rw[hA.out],hK⟩
  |exact⟨_,rfl,by rw[hA.out]⟩
def F2 (N:List Tx)(l:List RItem)(k:Nat):Bool:=l.any fun x=>decide (N.idxOf x.head.pred=k)||x.body.any fun a=>decide (N.idxOf a.pred=k)
theorem fX (N:List Tx)(l:List RItem)(cs:List AV)(idn idi k:Nat)(hE:EL (PI N) l cs)(hl:l.length<=1000)(av:∀x∈l,x.body.length<=1000)(q:St):ACalls Tryz.prog 244 [Bo N idn l idi cs,sc (.int .i64 k)] q fun r q'=>r=sc (.bool (F2 N l k))/\Keep q q':=by
 have az:=EL.length De hE;refine Z9 35 [.tmp 4] Tryz.func244 ?_
 repeat' (first|refine Z1 ?_|(refine Z8 ?_;intro κ hκ)|(refine Z4 ?_;clear hκ κ)|(refine Z2 ?_ ?_<;>intro h ab<;>try exact Xp)|refine Z3 ?_|exact⟨⟩|(apply hκ.out;clear hκ κ))
 refine Af (fun m s q'=>∃(i:Nat),m=l.length-i/\i<=l.length/\s 1=sc (.int .i64 k)/\s 10=sl idi l.length cs/\s 11=sc (.int .i64 l.length)/\s 12=sc (.int .i64 i)/\Keep q q'/\Ajs (F2 N (l.take i) k=false)) l.length
  ⟨0,Ajm,Ajm,rfl,Ajo,Ajo,rfl,Xs,by simp[Ajs,F2]⟩ ?_
 rintro m s q' ⟨i,rfl,hi,h1,ao,an,am,hK,hA⟩;have aj:=hK.nobj;by_cases ak:i<l.length
 ·have aa:=List.getElem?_eq_getElem ak;have ax:=av l[i] (Ah6 ak);obtain⟨ap,ih,id,b,r,ai,hd⟩:=En hE aa;generalize l[i]=x at hd aa ap ai ax;have aw:=EL.length Dt ai;by_cases hk:N.idxOf x.head.pred=k
  ·have ah:(((N.idxOf x.head.pred:Nat):Int)==(k:Int))=true:=by simp[hk]
   have HA:Ajs (F2 N l k=true):=cR aa (by simp[hk]);clear aa hA hk;generalize N.idxOf x.head.pred=ix at hd ah
   repeat' (first|refine Z1 ?_|(refine Z8 ?_;intro κ hκ)|(refine Z4 ?_;clear hκ κ)|(refine Z2 ?_ ?_<;>intro h ab<;>try exact Xp)|refine Z3 ?_|exact⟨⟩|(apply hκ.out;clear hκ κ))
   exact⟨_,rfl,by rw[HA.out],Xs⟩
  ·have ah:(((N.idxOf x.head.pred:Nat):Int)==(k:Int))=false:=by simpa using (by omega:¬((N.idxOf x.head.pred:Nat):Int)=k)
   have HG:Ajs (l[i]?=some x/\¬N.idxOf x.head.pred=k):=⟨aa,hk⟩;clear aa hk;generalize N.idxOf x.head.pred=ix at hd ah
   repeat' (first|refine Z1 ?_|(refine Z8 ?_;intro κ hκ)|(refine Z4 ?_;clear hκ κ)|(refine Z2 ?_ ?_<;>intro h ab<;>try exact Xp)|refine Z3 ?_|exact⟨⟩|(apply hκ.out;clear hκ κ))
   refine Af (fun m s q2=>∃(j:Nat),m=x.body.length-j/\j<=x.body.length/\s 1=sc (.int .i64 k)/\s 10=sl idi l.length cs/\s 11=sc (.int .i64 l.length)/\s 12=sc (.int .i64 i)/\s 22=sl id x.body.length b/\s 23=sc (.int .i64 x.body.length)/\s 24=sc (.int .i64 j)/\Keep q q2/\Ajs ((x.body.take j).any (fun a=>decide (N.idxOf a.pred=k))=false)) x.body.length
    ⟨0,Ajm,Ajm,Ajn,Ajn,Ajn,Ajn,Ajo,Ajo,rfl,Xs,by simp[Ajs]⟩ ?_
   clear h1 ao an am hK aj;rintro m s q2 ⟨j,rfl,hj,h1,ao,an,am,a4,a3,a0,hK,hJ⟩;have aj:=hK.nobj;by_cases ae:j<x.body.length
   ·have ac:=List.getElem?_eq_getElem ae;obtain⟨c0,rr,⟨ay,ida,rfl⟩,ad⟩:=EL.get Dt ai ac;generalize x.body[j]=a at ac ay ad;simp only[Aho,Ahq]at ad;by_cases hk:N.idxOf a.pred=k
    ·have af:(((N.idxOf a.pred:Nat):Int)==(k:Int))=true:=by simp[hk]
     have HA:Ajs (F2 N l k=true):=cR HG.out.1 (by
      have:x.body.any (fun a=>decide (N.idxOf a.pred=k))=true:=cR ac (by simp[hk])
      simp only[this,Bool.or_true])
     clear ac hk hJ hA HG;generalize N.idxOf a.pred=ia at ad af
     repeat' (first|refine Z1 ?_|(refine Z8 ?_;intro κ hκ)|(refine Z4 ?_;clear hκ κ)|(refine Z2 ?_ ?_<;>intro h ab<;>try exact Xp)|refine Z3 ?_|exact⟨⟩|(apply hκ.out;clear hκ κ))
     exact⟨_,rfl,by rw[HA.out],Xs⟩
    ·have af:(((N.idxOf a.pred:Nat):Int)==(k:Int))=false:=by simpa using (by omega:¬((N.idxOf a.pred:Nat):Int)=k)
     have HJ:Ajs ((x.body.take (j+1)).any (fun a=>decide (N.idxOf a.pred=k))=false):=Qb hJ.out ac (by simp[hk]);clear ac hk hJ;generalize N.idxOf a.pred=ia at ad af
     repeat' (first|refine Z1 ?_|(refine Z8 ?_;intro κ hκ)|(refine Z4 ?_;clear hκ κ)|(refine Z2 ?_ ?_<;>intro h ab<;>try exact Xp)|refine Z3 ?_|exact⟨⟩|(apply hκ.out;clear hκ κ))
     refine⟨x.body.length-(j+1),Ajm,j+1,?_⟩
     ((repeat' with_reducible refine And.intro ?_ ?_)<;>first|exact Xq|exact (HJ)|exact Xs)
   ·have au:j=x.body.length:=Ajm;subst au;rw[Agw]at hJ;have HA:Ajs (F2 N (l.take (i+1)) k=false):=Qb hA.out HG.out.1 (by simp only[hJ.out,Bool.or_false];simpa using HG.out.2);clear hJ HG hA
    repeat' (first|refine Z1 ?_|(refine Z8 ?_;intro κ hκ)|(refine Z4 ?_;clear hκ κ)|(refine Z2 ?_ ?_<;>intro h ab<;>try exact Xp)|refine Z3 ?_|exact⟨⟩|(apply hκ.out;clear hκ κ))
    refine⟨l.length-(i+1),Ajm,i+1,?_⟩
    ((repeat' with_reducible refine And.intro ?_ ?_)<;>first|exact Xq|exact (HA)|exact Xs)
 ·have hil:i=l.length:=Ajm;subst hil;rw[Agw]at hA
  repeat' (first|refine Z1 ?_|(refine Z8 ?_;intro κ hκ)|(refine Z4 ?_;clear hκ κ)|(refine Z2 ?_ ?_<;>intro h ab<;>try exact Xp)|refine Z3 ?_|exact⟨⟩|(apply hκ.out;clear hκ κ))
  first
  |exact⟨_,rfl,by rw[hA.out],hK⟩
  |exact⟨_,rfl,by rw[hA.out]⟩
def Iy (N:List Tx)(l' l:List RItem):Bool:=(List.range N.length).any fun k=>(Cg N l k&&!Cg N l' k)&&F2 N l' k
theorem Us (f:Nat->Bool)(k:Nat):(List.range (k+1)).any f=((List.range k).any f||f k):=by
 rw[List.range_succ,Aiz];simp
theorem mG (N:List Tx)(l l':List RItem)(cs cs':List AV)(idn idn' idi idi':Nat)(hE:EL (PI N) l cs)(ax:EL (PI N) l' cs')(hN:N.length<=2000)(hl:l.length<=1000)(av:l'.length<=1000)(a0:∀x∈l',x.body.length<=1000)(q:St):
  ACalls Tryz.prog 208 [Bo N idn' l' idi' cs',Bo N idn l idi cs] q fun r q'=>r=sc (.bool (Iy N l' l))/\Keep q q':=by
 have hR:=fun k q=>L0 N l cs idn idi k hE hl q;have ak:=fun k q=>L0 N l' cs' idn' idi' k ax av q;have am:=fun k q=>fX N l' cs' idn' idi' k ax av a0 q;refine Z9 27 [.tmp 4] Tryz.func208 ?_
 repeat' (first|refine Z1 ?_|(refine Z8 ?_;intro κ hκ)|(refine Z4 ?_;clear hκ κ)|(refine Z2 ?_ ?_<;>intro h ad<;>try exact Xp)|refine Z3 ?_|exact⟨⟩|(apply hκ.out;clear hκ κ))
 refine Af (fun m s q'=>∃(k:Nat),m=N.length-k/\k<=N.length/\s 2=ptr q.nobj 0/\s 3=ptr (q.nobj+1) 0/\s 7=sl idn' N.length (N.map str)/\s 8=sc (.int .i64 N.length)/\s 9=sc (.int .i64 k)/\Keep q q'/\q.nobj+1<q'.nobj/\q'.obj q.nobj=[sl idn' N.length (N.map str),sl idi' l'.length cs']/\q'.obj (q.nobj+1)=[sl idn N.length (N.map str),sl idi l.length cs]/\Ajs ((List.range k).any (fun k=>(Cg N l k&&!Cg N l' k)&&F2 N l' k)=false)) N.length
  ⟨0,Ajm,Ajm,Ajo,Ajo,Ajo,Ajo,rfl,Xs,Ajq,by rw[Ag Ajq,Ap],Ap,by simp[Ajs]⟩ ?_
 rintro m s q' ⟨k,rfl,hk,h2,h3,h7,h8,h9,hK,a5,ao,an,hA⟩;have a4:=hK.nobj;by_cases ay:k<N.length
 ·have hR:=hR k;have ak:=ak k;have am:=am k;have au:=Us (fun k=>(Cg N l k&&!Cg N l' k)&&F2 N l' k) k;rw[hA.out]at au;have aw:(Cg N l k&&!Cg N l' k&&F2 N l' k)=true->Iy N l' l=true:=fun h=>Ahk.2 ⟨k,by simpa using ay,h⟩;generalize Cg N l k=r1 at*
  generalize Cg N l' k=r2 at*
  generalize F2 N l' k=r3 at*
  have HS:Ajs _:=au;have HI:Ajs _:=aw;clear au aw hA;cases r1 with
  |false=>
   have HA:=HS.out;simp only[Ai6,Bool.or_false]at HA;have HB:Ajs _:=HA;clear HA HS HI
   repeat' (first|refine Z1 ?_|(refine Z8 ?_;intro κ hκ)|(refine Z4 ?_;clear hκ κ)|(refine Z2 ?_ ?_<;>intro h ad<;>try exact Xp)|(refine Z5 ?_;refine Xi (hR _) ?_;rintro _ _ ⟨rfl,ab⟩;(have ah:=ab.nobj;have aa:=ab.obj))|refine Z3 ?_|exact⟨⟩|(apply hκ.out;clear hκ κ))
   refine⟨N.length-(k+1),Ajm,k+1,?_⟩
   ((repeat' with_reducible refine And.intro ?_ ?_)<;>first|exact Xq|exact (HB)|exact (hK.trans ab)|exact (by rw[aa _ Ajm,ao])|exact (by rw[aa _ Ajm,an])|exact Xs)
  |true=>
   cases r2 with
   |true=>
    have HA:=HS.out;simp only[Ahy,Ahh,Ai6,Bool.or_false]at HA;have HB:Ajs _:=HA;clear HA HS HI
    repeat' (first|refine Z1 ?_|(refine Z8 ?_;intro κ hκ)|(refine Z4 ?_;clear hκ κ)|(refine Z2 ?_ ?_<;>intro h ad<;>try exact Xp)|(refine Z5 ?_;first|(refine Xi (hR _) ?_;rintro _ _ ⟨rfl,ab⟩;(have ah:=ab.nobj;have aa:=ab.obj))|(refine Xi (ak _) ?_;rintro _ _ ⟨rfl,ae⟩;(have aj:=ae.nobj;have ac:=ae.obj)))|refine Z3 ?_|exact⟨⟩|(apply hκ.out;clear hκ κ))
    refine⟨N.length-(k+1),Ajm,k+1,?_⟩
    ((repeat' with_reducible refine And.intro ?_ ?_)<;>first|exact Xq|exact (HB)|exact ((hK.trans ab).trans ae)|exact (by rw[ac _ Ajm,aa _ Ajm,ao])|exact (by rw[ac _ Ajm,aa _ Ajm,an])|exact Xs)
   |false=>
    cases r3 with
    |false=>
     have HA:=HS.out;simp only[Ahy,Bool.not_false,Bool.and_false,Bool.or_false]at HA;have HB:Ajs _:=HA;clear HA HS HI
     repeat' (first|refine Z1 ?_|(refine Z8 ?_;intro κ hκ)|(refine Z4 ?_;clear hκ κ)|(refine Z2 ?_ ?_<;>intro h ad<;>try exact Xp)|(refine Z5 ?_;first|(refine Xi (hR _) ?_;rintro _ _ ⟨rfl,ab⟩;(have ah:=ab.nobj;have aa:=ab.obj))|(refine Xi (ak _) ?_;rintro _ _ ⟨rfl,ae⟩;(have aj:=ae.nobj;have ac:=ae.obj))|(refine Xi (am _) ?_;rintro _ _ ⟨rfl,ai⟩;(have ap:=ai.nobj;have af:=ai.obj)))|refine Z3 ?_|exact⟨⟩|(apply hκ.out;clear hκ κ))
     refine⟨N.length-(k+1),Ajm,k+1,?_⟩
     ((repeat' with_reducible refine And.intro ?_ ?_)<;>first|exact Xq|exact (HB)|exact (((hK.trans ab).trans ae).trans ai)|exact (by rw[af _ Ajm,ac _ Ajm,aa _ Ajm,ao])|exact (by rw[af _ Ajm,ac _ Ajm,aa _ Ajm,an])|exact Xs)
    |true=>
     have HL:Ajs (Iy N l' l=true):=HI.out rfl;clear HS HI
     repeat' (first|refine Z1 ?_|(refine Z8 ?_;intro κ hκ)|(refine Z4 ?_;clear hκ κ)|(refine Z2 ?_ ?_<;>intro h ad<;>try exact Xp)|(refine Z5 ?_;first|(refine Xi (hR _) ?_;rintro _ _ ⟨rfl,ab⟩;(have ah:=ab.nobj;have aa:=ab.obj))|(refine Xi (ak _) ?_;rintro _ _ ⟨rfl,ae⟩;(have aj:=ae.nobj;have ac:=ae.obj))|(refine Xi (am _) ?_;rintro _ _ ⟨rfl,ai⟩;(have ap:=ai.nobj;have af:=ai.obj;have a3:=((hK.trans ab).trans ae).trans ai)))|refine Z3 ?_|exact⟨⟩|(apply hκ.out;clear hκ κ))
     first|exact⟨_,rfl,by rw[HL.out],a3⟩|exact⟨_,rfl,by rw[HL.out]⟩
 ·have az:k=N.length:=Ajm;have HL:Ajs (Iy N l' l=false):=by
   have:=hA.out;rw[az]at this;exact this
  clear hA
  repeat' (first|refine Z1 ?_|(refine Z8 ?_;intro κ hκ)|(refine Z4 ?_;clear hκ κ)|(refine Z2 ?_ ?_<;>intro h ad<;>try exact Xp)|refine Z3 ?_|exact⟨⟩|(apply hκ.out;clear hκ κ))
  first|exact⟨_,rfl,by rw[HL.out],hK⟩|exact⟨_,rfl,by rw[HL.out]⟩
structure BkM (N:List Tx)(l:List RItem)(cs:List AV):Prop where
 el:EL (PI N) l cs
 len:l.length<=1000
 nm:N.length<=2000
 msr:∀x∈l,Msr N x
 fits:∀x∈l,x.fits
 pos:∀x∈l,∀a∈Ae x,0<a.terms.length
 va:∀x∈l,∀a∈Ae x,VA a
theorem BkM.bk {N:List Tx}{l:List RItem}{cs:List AV}(h:BkM N l cs)(hl:l.length<=16):Bk N l cs:=⟨h.el,hl,h.fits,fun x hx=>(h.msr x hx).out,h.nm,h.pos⟩
def Cz (N:List Tx)(l l':List RItem):Bool:=H8 l'&&(!Iy N l' l&&((Ce l').1==0))
structure BkJ (N:List Tx)(l:List RItem)(cs:List AV):Prop where
 pj:EL (PJ N) l cs
 len:l.length<=1000
 bk:H8 l=true->BkM N l cs
theorem BkM.bj {N:List Tx}{l:List RItem}{cs:List AV}(h:BkM N l cs):BkJ N l cs:=⟨Ow h.el fun x hx c hc=>.inl ⟨hc,h.msr x hx⟩,h.len,fun _=>h⟩
theorem Hu (N:List Tx)(l l':List RItem)(cs cs':List AV)(idn idi idi':Nat)(hB:BkM N l cs)(ad:BkJ N l' cs')(q:St):
  ACalls Tryz.prog 177 [Bo N idn l idi cs,sl idi' l'.length cs'] q fun r q'=>(∃x,r=tp [x,sc (.bool (Cz N l l'))]/\(Cz N l l'=true->x=Bo N idn l' idi' cs')/\(∃id1 n1 c1 id2 n2 c2,x=ag [sl id1 n1 c1,sl id2 n2 c2]))/\Keep q q':=by
 have ai:=fun q=>W5 N l' cs' idn idi' ad.pj hB.nm ad.len q;cases ac:H8 l' with
 |false=>
  have af:Cz N l l'=false:=by unfold Cz;rw[ac];rfl
  rw[ac]at ai;rw[af];refine Z9 30 [.cell 4 62,.tmp 5] Tryz.func177 ?_
  repeat' (first|refine Z1 ?_|(refine Z8 ?_;intro κ hκ)|(refine Z4 ?_;clear hκ κ)|(refine Z2 ?_ ?_<;>intro h ah<;>try exact Xp)|(refine Z5 ?_;refine Xi (ai _) ?_;rintro _ _ ⟨rfl,ae⟩;(have ab:=ae.nobj;have aa:=ae.obj;(try simp only[Aa,Ab]at ab aa)))|refine Z3 ?_|exact⟨⟩|(apply hκ.out;clear hκ κ))
  exact⟨_,rfl,⟨_,rfl,(fun h=>by cases h),1,0,[],1,0,[],rfl⟩,Xs⟩
 |true=>
  rw[ac]at ai;have ad:=ad.bk ac;have am:=fun q=>mG N l l' cs cs' idn idn idi idi' hB.el ad.el hB.nm hB.len ad.len (fun x hx=>(ad.msr x hx).body) q;have ap:l'.length<=16:=by
   unfold H8 at ac;simp only[Ags,Ajj]at ac;exact ac.1
  cases ak:Iy N l' l with
  |true=>
   have af:Cz N l l'=false:=by unfold Cz;rw[ac,ak];rfl
   rw[ak]at am;rw[af];refine Z9 30 [.cell 4 62,.tmp 5] Tryz.func177 ?_
   repeat' (first|refine Z1 ?_|(refine Z8 ?_;intro κ hκ)|(refine Z4 ?_;clear hκ κ)|(refine Z2 ?_ ?_<;>intro h ah<;>try exact Xp)|(refine Z5 ?_;first|(refine Xi (ai _) ?_;rintro _ _ ⟨rfl,ae⟩;(have ab:=ae.nobj;have aa:=ae.obj;(try simp only[Aa,Ab]at ab aa)))|(refine Xi (am _) ?_;rintro _ _ ⟨rfl,aj⟩;(have ao:=aj.nobj;have an:=aj.obj)))|refine Z3 ?_|exact⟨⟩|(apply hκ.out;clear hκ κ))
   exact⟨_,rfl,⟨_,rfl,(fun h=>by cases h),1,0,[],1,0,[],rfl⟩,Xs⟩
  |false=>
   have af:Cz N l l'=((Ce l').1==0):=by unfold Cz;rw[ac,ak];simp
   rw[ak]at am;rw[af];have hF:=fun q=>Vp N l' cs' idn idi' (ad.bk ap) ad.va q;generalize Ce l'=wm at hF;obtain⟨w1,w2⟩:=wm;clear af;refine Z9 30 [.cell 4 62,.tmp 5] Tryz.func177 ?_
   repeat' (first|refine Z1 ?_|(refine Z8 ?_;intro κ hκ)|(refine Z4 ?_;clear hκ κ)|(refine Z2 ?_ ?_<;>intro h ah<;>try exact Xp)|(refine Z5 ?_;first|(refine Xi (ai _) ?_;rintro _ _ ⟨rfl,ae⟩;(have ab:=ae.nobj;have aa:=ae.obj;(try simp only[Aa,Ab]at ab aa)))|(refine Xi (am _) ?_;rintro _ _ ⟨rfl,aj⟩;(have ao:=aj.nobj;have an:=aj.obj))|(refine Xi (hF _) ?_;rintro _ _ ⟨rfl,au⟩;(have aw:=au.nobj;have av:=au.obj)))|refine Z3 ?_|exact⟨⟩|(apply hκ.out;clear hκ κ))
   exact⟨_,rfl,⟨_,rfl,fun _=>rfl,_,_,_,_,_,_,rfl⟩,Xs⟩
def Cp {α:Type}(n:Nat)(o:List α)(l:List α):List α:=l.zipIdx.flatMap fun p=>if p.2=n then o else [p.1]
theorem Up {α:Type}{n:Nat}{o l:List α}{i:Nat}{x:α}(h:l[i]?=some x):Cp n o (l.take (i+1))=Cp n o (l.take i)++if i=n then o else [x]:=by
 have hi:=(List.getElem?_eq_some_iff.1 h).1;unfold Cp;rw[Agz,h,Aia,List.zipIdx_append,List.flatMap_append,Ahb,Ahf Ajm];simp
theorem Pg {α:Type}{n:Nat}{o:List α}(l:List α):∀i,(Cp n o (l.take i)).length<=i*(o.length+1)
 |0=>by simp[Cp]
 |i+1=>by
  have ih:=Pg l i (n:=n) (o:=o);cases h:l[i]? with
  |none=>
   rw[Agz,h,Option.toList_none,Ag3];rw[Ag8];omega
  |some x=>
   rw[Up h,Aha,Ag8];split<;>simp<;>omega
def Itm (c:List AV):Prop:=∃(o:Bool) (p:Int) (ih n1:Nat) (tc:List AV) (ib n2:Nat) (b:List AV),c=[sc (.bool o),sc (.int .i64 p),sl ih n1 tc,sl ib n2 b]
theorem kB {N:List Tx}{x:RItem}{c:List AV}(h:PI N x c):Itm c:=by
 obtain⟨-,ih,id,b,-,rfl⟩:=h;exact⟨_,_,_,_,_,_,_,_,rfl⟩
theorem Ly {α:Type}{E:α->List AV->Prop}(hz:∀x c,E x c->Itm c)(N:List Tx)(l o:List α)(cs co:List AV)(idn idi ido n:Nat)(hE:EL E l cs)(a0:EL E o co)(hl:l.length<=1000)(ho:o.length<=1000)(q:St):
  ACalls Tryz.prog 178 [ag [sl idn N.length (N.map str),sl idi l.length cs],sl ido o.length co,sc (.int .i64 n)] q fun r q'=>(∃id c',r=sl id (Cp n o l).length c'/\EL E (Cp n o l) c')/\Keep q q':=by
 have h4:∀x c,E x c->c.length=4:=fun x c h=>by obtain⟨_,_,_,_,_,_,_,_,rfl⟩:=hz x c h;rfl
 have bi:=EL.length h4 hE;have bh:=EL.length h4 a0;refine Z9 41 [.tmp 6] Tryz.func178 ?_
 repeat' (first|refine Z1 ?_|(refine Z8 ?_;intro κ hκ)|(refine Z4 ?_;clear hκ κ)|(refine Z2 ?_ ?_<;>intro h ae<;>try exact Xp)|(refine Z6 ?_;intro idn qn ah aj ad aa ac ab)|refine Z3 ?_|exact⟨⟩|(apply hκ.out;clear hκ κ))
 refine Af (fun m s q'=>∃(i id:Nat) (R:List α) (c:List AV),m=l.length-i/\i<=l.length/\s 1=sl ido o.length co/\s 2=sc (.int .i64 n)/\s 7=sl id R.length c/\s 14=sl idi l.length cs/\s 15=sc (.int .i64 l.length)/\s 16=sc (.int .i64 i)/\Keep q q'/\Own q q' id R.length/\c.length=R.length*4/\R.length<=i*(o.length+1)/\Ajs (R=Cp n o (l.take i)/\EL E R c)) l.length
  ⟨0,1,[],[],Ajm,Ajm,rfl,rfl,Ajo,Ajo,Ajo,rfl,Xs,Own.nil _ _,by simp,by simp,⟨by simp[Cp],rfl⟩⟩ ?_
 rintro m s q' ⟨i,id,R,c,rfl,hi,h1,h2,h7,a5,a4,a3,hK,hO,ak,be,hA⟩;have ay:=hK.nobj;by_cases bb:i<l.length
 ·have af:=List.getElem?_eq_getElem bb;obtain⟨c1,r,av,hd⟩:=EL.get h4 hE af;generalize l[i]=x at hd af av;obtain⟨x1,x2,x3,x4,x5,x6,x7,x8,rfl⟩:=hz _ _ av;simp only[Aho,Ahq]at hd;have bf:Ajs _:=av;clear av;have bl:R.length<=1001000:=Agj be (Agj (Nat.mul_le_mul (by omega:i<=1000) (by omega:o.length+1<=1001)) (by decide));have am:=Pg (n:=n) (o:=o) l (i+1);have ai:=Up (n:=n) (o:=o) af;rw[<-hA.out.1]at ai;by_cases an:i=n
  ·rw[if_pos an]at ai;have ba:((i:Int) !=(n:Int))=false:=by simp[an]
   have a6:Ajs _:=ai;have a7:Ajs (EL E R c):=hA.out.2;rw[ai,Aha]at am;clear ai af hA an
   repeat' (first|refine Z1 ?_|(refine Z8 ?_;intro κ hκ)|(refine Z4 ?_;clear hκ κ)|(refine Z2 ?_ ?_<;>intro h ae<;>try exact Xp)|(refine Z6 ?_;intro idn qn ah aj ad aa ac ab)|refine Z3 ?_|exact⟨⟩|(apply hκ.out;clear hκ κ))
   refine Af (fun m s q2=>∃(j id:Nat) (c':List AV),m=o.length-j/\j<=o.length/\s 1=sl ido o.length co/\s 2=sc (.int .i64 n)/\s 7=sl id (R.length+j) c'/\s 14=sl idi l.length cs/\s 15=sc (.int .i64 l.length)/\s 16=sc (.int .i64 i)/\s 28=sl ido o.length co/\s 29=sc (.int .i64 o.length)/\s 30=sc (.int .i64 j)/\Keep q q2/\Own q q2 id (R.length+j)/\c'.length=(R.length+j)*4/\Ajs (EL E (R++o.take j) c')) o.length
    ⟨0,id,c,Ajm,Ajm,Ajn,Ajn,Ajn,Ajn,Ajn,Ajn,Ajn,Ajn,Ajo,Xs,(by simpa using Own.put (Own.new hO _) _ _),by simpa using ak,by simpa using a7⟩ ?_
   clear h1 h2 h7 a5 a4 a3 hK hO ay ak a7;rintro m s q2 ⟨j,id,c',rfl,hj,h1,h2,h7,a5,a4,a3,bp,bo,bn,hK,hO,ak,ao⟩;have ay:=hK.nobj;by_cases ax:j<o.length
   ·have ap:=List.getElem?_eq_getElem ax;obtain⟨c2,rj,au,az⟩:=EL.get h4 a0 ap;generalize o[j]=y at az ap au;obtain⟨y1,y2,y3,y4,y5,y6,y7,y8,rfl⟩:=hz _ _ au;simp only[Aho,Ahq]at az;have bg:Ajs (EL E (R++o.take (j+1)) (c'++[sc (.bool y1),sc (.int .i64 y2),sl y3 y4 y5,sl y6 y7 y8])):=by
     rw[Ajs,Agz,ap,Aia,<-Ahc];exact EL.append ao.out (EL.single au)
    clear ap ao au
    repeat' (first|refine Z1 ?_|(refine Z8 ?_;intro κ hκ)|(refine Z4 ?_;clear hκ κ)|(refine Z2 ?_ ?_<;>intro h ae<;>try exact Xp)|(refine Z6 ?_;intro idn qn ah aj ad aa ac ab)|refine Z3 ?_|exact⟨⟩|(apply hκ.out;clear hκ κ))
    refine Bh (by first|exact Ki) ((hK.new _).put hK.nobj _) (Own.put (Own.new hO _) _ _) (by decide) (by rfl) (ak) (by rfl) (by rfl) (by decide) Ajm Ajm ?_;intro idn qn ah aj ad aa ac ab;simp only[Ab,Aa]at aa;refine Z3 ?_
    repeat' (first|refine Z1 ?_|(refine Z8 ?_;intro κ hκ)|(refine Z4 ?_;clear hκ κ)|(refine Z2 ?_ ?_<;>intro h ae<;>try exact Xp)|(refine Z6 ?_;intro idn qn ah aj ad aa ac ab)|refine Z3 ?_|exact⟨⟩|(apply hκ.out;clear hκ κ))
    refine⟨o.length-(j+1),Ajm,j+1,idn,c'++[sc (.bool y1),sc (.int .i64 y2),sl y3 y4 y5,sl y6 y7 y8],?_⟩
    ((repeat' with_reducible refine And.intro ?_ ?_)<;>first|exact Xq|exact (bg)|exact (ah)|exact ((by simp[ak];omega))|exact Xs)
   ·have bc:j=o.length:=Ajm;subst bc;rw[Agw]at ao;have HA:Ajs (R++o=Cp n o (l.take (i+1))/\EL E (R++o) c'):=⟨a6.out.symm,ao.out⟩;clear ao a6;have bd:c'.length=(R++o).length*4:=by rw[ak,Aha]
    have bm:Own q q2 id (R++o).length:=by rw[Aha];exact hO
    rw[<-Aha]at h7;have a9:(R++o).length<=(i+1)*(o.length+1):=by rw[Aha];exact am
    repeat' (first|refine Z1 ?_|(refine Z8 ?_;intro κ hκ)|(refine Z4 ?_;clear hκ κ)|(refine Z2 ?_ ?_<;>intro h ae<;>try exact Xp)|(refine Z6 ?_;intro idn qn ah aj ad aa ac ab)|refine Z3 ?_|exact⟨⟩|(apply hκ.out;clear hκ κ))
    refine⟨l.length-(i+1),Ajm,i+1,id,R++o,c',?_⟩
    ((repeat' with_reducible refine And.intro ?_ ?_)<;>first|exact Xq|exact (HA)|exact Xs)
  ·rw[if_neg an]at ai;have ba:((i:Int) !=(n:Int))=true:=by simpa using (by omega:¬(i:Int)=n)
   have HA:Ajs (R++[x]=Cp n o (l.take (i+1))/\EL E (R++[x]) (c++[sc (.bool x1),sc (.int .i64 x2),sl x3 x4 x5,sl x6 x7 x8])):=⟨ai.symm,EL.append hA.out.2 (EL.single bf.out)⟩;rw[ai]at am;clear ai af hA an
   repeat' (first|refine Z1 ?_|(refine Z8 ?_;intro κ hκ)|(refine Z4 ?_;clear hκ κ)|(refine Z2 ?_ ?_<;>intro h ae<;>try exact Xp)|(refine Z6 ?_;intro idn qn ah aj ad aa ac ab)|refine Z3 ?_|exact⟨⟩|(apply hκ.out;clear hκ κ))
   refine Bh (by first|exact Ki) ((hK.new _).put hK.nobj _) (Own.put (Own.new hO _) _ _) (by decide) (by rfl) (ak) (by rfl) (by rfl) (by decide) Ajm Ajm ?_;intro idn qn ah aj ad aa ac ab;simp only[Ab,Aa]at aa;refine Z3 ?_
   repeat' (first|refine Z1 ?_|(refine Z8 ?_;intro κ hκ)|(refine Z4 ?_;clear hκ κ)|(refine Z2 ?_ ?_<;>intro h ae<;>try exact Xp)|(refine Z6 ?_;intro idn qn ah aj ad aa ac ab)|refine Z3 ?_|exact⟨⟩|(apply hκ.out;clear hκ κ))
   refine⟨l.length-(i+1),Ajm,i+1,idn,R++[x],c++[sc (.bool x1),sc (.int .i64 x2),sl x3 x4 x5,sl x6 x7 x8],?_⟩
   ((repeat' with_reducible refine And.intro ?_ ?_)<;>first|exact Xq|exact (HA)|exact ((by simpa using ah))|exact ((by simp[ak];omega))|exact Xs)
 ·have hil:i=l.length:=Ajm;subst hil;rw[Agw]at hA;have aw:Ajs (Cp n o l=R):=hA.out.1.symm;have a8:Ajs (EL E R c):=hA.out.2;clear hA
  repeat' (first|refine Z1 ?_|(refine Z8 ?_;intro κ hκ)|(refine Z4 ?_;clear hκ κ)|(refine Z2 ?_ ?_<;>intro h ae<;>try exact Xp)|(refine Z6 ?_;intro idn qn ah aj ad aa ac ab)|refine Z3 ?_|exact⟨⟩|(apply hκ.out;clear hκ κ))
  first|exact⟨_,rfl,⟨id,c,by rw[aw.out],by rw[aw.out];exact a8.out⟩,hK⟩|exact⟨_,rfl,id,c,by rw[aw.out],by rw[aw.out];exact a8.out⟩
theorem Ut (N:List Tx)(l o:List RItem)(cs co:List AV)(idn idi ido n:Nat)(hE:EL (PI N) l cs)(aa:EL (PI N) o co)(hl:l.length<=1000)(ho:o.length<=1000)(q:St):
  ACalls Tryz.prog 178 [Bo N idn l idi cs,sl ido o.length co,sc (.int .i64 n)] q fun r q'=>(∃id c',r=sl id (Cp n o l).length c'/\EL (PI N) (Cp n o l) c')/\Keep q q':=
 Ly (fun _ _ h=>kB h) N l o cs co idn idi ido n hE aa hl ho q
end Go.Proofs.YtmoeoppbmhfbpabGreatDoorL
