import Derived.Test.YtmoeoppbmhfbpabGreatDoorHEngU
import Derived.Test.YtmoeoppbmhfbpabGreatDoorHSpaE
set_option linter.all false
namespace Go.Proofs.YtmoeoppbmhfbpabGreatDoorH
set_option maxHeartbeats 32000000
open Go.Abs
set_option maxRecDepth 100000
theorem Qv {b c:UInt8}:((b.toNat:Int)==(c.toNat:Int))=decide (b=c):=by
 by_cases h:b=c
 ·subst h;simp
 ·rw[Ad0 h];have:b.toNat≠c.toNat:=fun e=>h (UInt8.toNat_inj.1 e);simpa using (by omega:¬(b.toNat:Int)=c.toNat)
theorem Ha {α:Type}{f:α->UInt8->α}{a:α}{t:Tx}{i:Nat}{c:UInt8}(h:t[i]?=some c):(t.take (i+1)).foldl f a=f ((t.take i).foldl f a) c:=by
 rw[Abq,h,Ac2,Adh];rfl
theorem Tq {t:Tx}{f i:Nat}{c:UInt8}(hf:f<=i)(h:t[i]?=some c):(t.drop f).take (i+1-f)=(t.drop f).take (i-f)++[c]:=by
 rw[show i+1-f=(i-f)+1 by omega,Abq,List.getElem?_drop,show f+(i-f)=i by omega,h];rfl
theorem Qu (t:Tx)(i:Nat):(t.drop i).take (i-i)=[]:=by simp
theorem Fp (t:Tx)(ht:t.length<=1000000)(j:St):ACalls Tryz.prog 22 [str t] j fun r j'=>(∃id,r=sl id (Dn t).length ((Dn t).map str))/\Keep j j':=by
 refine Z9 37 [.tmp 2] Tryz.func22 ?_
 repeat' (first|refine Z1 ?_|(refine Z8 ?_;intro κ hκ)|(refine Z4 ?_;clear hκ κ)|(refine Z2 ?_ ?_<;>intro h ad<;>try exact Xp)|(refine Z6 ?_;intro idn jn ah ai af ab ae aa)|refine Z3 ?_|exact⟨⟩|(apply hκ.out;clear hκ κ))
 refine Ad (fun m s j'=>∃(i f id:Nat) (d:List Tx),m=t.length-i/\i<=t.length/\f<=i/\s 0=str t/\s 3=sl id d.length (d.map str)/\s 4=sc (.int .i64 f)/\s 5=sc (.int .i64 i)/\Keep j j'/\Own j j' id d.length/\d.length<=i/\Ad8 ((t.take i).foldl mN ([],[])=(d,(t.drop f).take (i-f)))) t.length
  ⟨0,0,1,[],Ad2,Ad2,Ad2,rfl,rfl,rfl,rfl,Keep.refl _,Own.nil _ _,by simp,by simp[Ad8]⟩ ?_
 rintro m s j' ⟨i,f,id,d,rfl,hi,hf,h0,h3,h4,h5,hK,hO,ao,hF⟩;by_cases ak:i<t.length
 ·have ac:=List.getElem?_eq_getElem ak;generalize t[i]=c at ac;by_cases hc:c=46
  ·have hb:((c.toNat:Int)==46)=true:=by rw[hc];rfl
   have HF:Ad8 ((t.take (i+1)).foldl mN ([],[])=(d++[(t.drop f).take (i+1-f)],(t.drop (i+1)).take (i+1-(i+1)))):=by
    rw[Ad8,Ha ac,hF.out,Tq hf ac,Qu,hc];rfl
   clear hF hc
   repeat' (first|refine Z1 ?_|(refine Z8 ?_;intro κ hκ)|(refine Z4 ?_;clear hκ κ)|(refine Z2 ?_ ?_<;>intro h ad<;>try exact Xp)|(refine Z6 ?_;intro idn jn ah ai af ab ae aa)|refine Z3 ?_|exact⟨⟩|(apply hκ.out;clear hκ κ))
   refine⟨t.length-(i+1),Ad2,i+1,i+1,idn,d++[(t.drop f).take (i+1-f)],?_⟩
   ((repeat' with_reducible refine And.intro ?_ ?_)<;>first|exact Xq|exact (HF)|exact ((by simpa using ah))|exact Xs)
  ·have hb:((c.toNat:Int)==46)=false:=by rw[show (46:Int)=((46:UInt8).toNat:Int)from rfl,Qv];simpa using hc
   have HF:Ad8 ((t.take (i+1)).foldl mN ([],[])=(d,(t.drop f).take (i+1-f))):=by
    rw[Ad8,Ha ac,hF.out,Tq hf ac,mN,if_neg hc]
   clear hF hc
   repeat' (first|refine Z1 ?_|(refine Z8 ?_;intro κ hκ)|(refine Z4 ?_;clear hκ κ)|(refine Z2 ?_ ?_<;>intro h ad<;>try exact Xp)|(refine Z6 ?_;intro idn jn ah ai af ab ae aa)|refine Z3 ?_|exact⟨⟩|(apply hκ.out;clear hκ κ))
   refine⟨t.length-(i+1),Ad2,i+1,f,id,d,?_⟩
   ((repeat' with_reducible refine And.intro ?_ ?_)<;>first|exact Xq|exact (HF)|exact Xs)
 ·have am:i=t.length:=Ad2;subst am;have aj:=hF.out;rw[Abn,Acl (by simp)]at aj;by_cases an:f<t.length
  ·have HP:Ad8 (Dn t=d++[t.drop f]):=by
    rw[Ad8,Dn,aj,if_neg (by intro e;have:=congrArg List.length e;simp at this;omega)]
   clear hF aj
   repeat' (first|refine Z1 ?_|(refine Z8 ?_;intro κ hκ)|(refine Z4 ?_;clear hκ κ)|(refine Z2 ?_ ?_<;>intro h ad<;>try exact Xp)|(refine Z6 ?_;intro idn jn ah ai af ab ae aa)|refine Z3 ?_|exact⟨⟩|(apply hκ.out;clear hκ κ))
   first|refine⟨_,rfl,⟨idn,?_⟩,ai⟩|refine⟨_,rfl,idn,?_⟩
   rw[HP.out];simp
   try rw[Acl (by simp)]
  ·have HP:Ad8 (Dn t=d):=by
    rw[Ad8,Dn,aj,if_pos (by apply Abl;simp;omega)]
   clear hF aj
   repeat' (first|refine Z1 ?_|(refine Z8 ?_;intro κ hκ)|(refine Z4 ?_;clear hκ κ)|(refine Z2 ?_ ?_<;>intro h ad<;>try exact Xp)|(refine Z6 ?_;intro idn jn ah ai af ab ae aa)|refine Z3 ?_|exact⟨⟩|(apply hκ.out;clear hκ κ))
   first|exact⟨_,rfl,⟨id,by rw[HP.out]⟩,hK⟩|exact⟨_,rfl,id,by rw[HP.out]⟩
theorem cS (l:List Tx)(ids:Nat)(u:Tx)(hl:l.length<=2000000)(j:St):ACalls Tryz.prog 46 [sl ids l.length (l.map str),str u] j fun r j'=>r=sc (.bool (decide (u∈l)))/\j'=j:=by
 refine Z9 18 [.tmp 4] Tryz.func46 ?_
 repeat' (first|refine Z1 ?_|(refine Z8 ?_;intro κ hκ)|(refine Z4 ?_;clear hκ κ)|(refine Z2 ?_ ?_<;>intro h ab<;>try exact Xp)|refine Z3 ?_|exact⟨⟩|(apply hκ.out;clear hκ κ))
 refine Ad (fun m s j'=>∃i:Nat,m=l.length-i/\i<=l.length/\s 0=sl ids l.length (l.map str)/\s 1=str u/\s 5=sc (.int .i64 i)/\j'=j/\Ad8 (u∉l.take i)) l.length
  ⟨0,Ad2,Ad2,rfl,rfl,rfl,rfl,by simp[Ad8]⟩ ?_
 rintro m s j' ⟨i,rfl,hi,h0,h1,h5,hj,ac⟩;by_cases ad:i<l.length
 ·have af:=Cm ad;have aa:=List.getElem?_eq_getElem ad;generalize l[i]=w at af aa;by_cases hw:w=u
  ·subst hw;have HM:Ad8 (decide (w∈l)=true):=by rw[Ad8];simpa using Abh aa
   clear aa ac;have hb:(w==w)=true:=by simp
   repeat' (first|refine Z1 ?_|(refine Z8 ?_;intro κ hκ)|(refine Z4 ?_;clear hκ κ)|(refine Z2 ?_ ?_<;>intro h ab<;>try exact Xp)|refine Z3 ?_|exact⟨⟩|(apply hκ.out;clear hκ κ))
   first|exact⟨_,rfl,by rw[HM.out],by assumption⟩|exact⟨_,rfl,by rw[HM.out]⟩
  ·have hb:(w==u)=false:=by simpa using hw
   have HN:Ad8 (u∉l.take (i+1)):=by
    rw[Ad8,Abq,aa,Ac2];simp only[Ack,Ac3,not_or];exact⟨ac.out,fun e=>hw e.symm⟩
   clear aa ac hw
   repeat' (first|refine Z1 ?_|(refine Z8 ?_;intro κ hκ)|(refine Z4 ?_;clear hκ κ)|(refine Z2 ?_ ?_<;>intro h ab<;>try exact Xp)|refine Z3 ?_|exact⟨⟩|(apply hκ.out;clear hκ κ))
   refine⟨l.length-(i+1),Ad2,i+1,?_⟩
   ((repeat' with_reducible refine And.intro ?_ ?_)<;>first|exact Xq|exact (HN)|exact Xs)
 ·have ae:i=l.length:=Ad2;have HM:Ad8 (decide (u∈l)=false):=by
   rw[Ad8];have:=ac.out;rw[ae,Abn]at this;simpa using this
  clear ac
  repeat' (first|refine Z1 ?_|(refine Z8 ?_;intro κ hκ)|(refine Z4 ?_;clear hκ κ)|(refine Z2 ?_ ?_<;>intro h ab<;>try exact Xp)|refine Z3 ?_|exact⟨⟩|(apply hκ.out;clear hκ κ))
  first|exact⟨_,rfl,by rw[HM.out],by assumption⟩|exact⟨_,rfl,by rw[HM.out]⟩
theorem Kl (t:Tx)(c:UInt8)(ht:t.length<=100000)(j:St):ACalls Tryz.prog 28 [str t,sc (.int .u8 c.toNat)] j fun r j'=>r=sc (.int .i64 (t.count c:Nat))/\j'=j:=by
 refine Z9 21 [.tmp 4] Tryz.func28 ?_
 repeat' (first|refine Z1 ?_|(refine Z8 ?_;intro κ hκ)|(refine Z4 ?_;clear hκ κ)|(refine Z2 ?_ ?_<;>intro h ab<;>try exact Xp)|refine Z3 ?_|exact⟨⟩|(apply hκ.out;clear hκ κ))
 refine Ad (fun m s j'=>∃i n:Nat,m=t.length-i/\i<=t.length/\n<=i/\s 0=str t/\s 1=sc (.int .u8 c.toNat)/\s 5=sc (.int .i64 n)/\s 6=sc (.int .i64 i)/\j'=j/\Ad8 ((t.take i).count c=n)) t.length
  ⟨0,0,Ad2,Ad2,Ad2,rfl,rfl,rfl,rfl,rfl,by simp[Ad8]⟩ ?_
 rintro m s j' ⟨i,n,rfl,hi,hn,h0,h1,h5,h6,hj,hC⟩;by_cases ad:i<t.length
 ·have ac:=List.getElem?_eq_getElem ad;generalize t[i]=b at ac;have aa:(t.take (i+1)).count c=(t.take i).count c+if b=c then 1 else 0:=by
   rw[Abq,ac,Ac2,Adm,List.count_singleton];simp
  by_cases hc:b=c
  ·have hb:((b.toNat:Int)==(c.toNat:Int))=true:=by rw[hc];simp
   have HC:Ad8 ((t.take (i+1)).count c=n+1):=by rw[Ad8,aa,if_pos hc,hC.out]
   clear hC hc aa
   repeat' (first|refine Z1 ?_|(refine Z8 ?_;intro κ hκ)|(refine Z4 ?_;clear hκ κ)|(refine Z2 ?_ ?_<;>intro h ab<;>try exact Xp)|refine Z3 ?_|exact⟨⟩|(apply hκ.out;clear hκ κ))
   refine⟨t.length-(i+1),Ad2,i+1,n+1,?_⟩
   ((repeat' with_reducible refine And.intro ?_ ?_)<;>first|exact Xq|exact (HC)|exact Xs)
  ·have hb:((b.toNat:Int)==(c.toNat:Int))=false:=by rw[Qv];simpa using hc
   have HC:Ad8 ((t.take (i+1)).count c=n):=by rw[Ad8,aa,if_neg hc,hC.out];rfl
   clear hC hc aa
   repeat' (first|refine Z1 ?_|(refine Z8 ?_;intro κ hκ)|(refine Z4 ?_;clear hκ κ)|(refine Z2 ?_ ?_<;>intro h ab<;>try exact Xp)|refine Z3 ?_|exact⟨⟩|(apply hκ.out;clear hκ κ))
   refine⟨t.length-(i+1),Ad2,i+1,n,?_⟩
   ((repeat' with_reducible refine And.intro ?_ ?_)<;>first|exact Xq|exact (HC)|exact Xs)
 ·have ae:i=t.length:=Ad2;have HC:Ad8 (t.count c=n):=by
   rw[Ad8];have:=hC.out;rw[ae,Abn]at this;exact this
  clear hC
  repeat' (first|refine Z1 ?_|(refine Z8 ?_;intro κ hκ)|(refine Z4 ?_;clear hκ κ)|(refine Z2 ?_ ?_<;>intro h ab<;>try exact Xp)|refine Z3 ?_|exact⟨⟩|(apply hκ.out;clear hκ κ))
  first|exact⟨_,rfl,by rw[HC.out],by assumption⟩|exact⟨_,rfl,by rw[HC.out]⟩
theorem nU:∀(n:Nat),∀b∈Lib.decDigits n,Ax b.toNat=true:=by
 intro n;induction n using Nat.strongRecOn with
 |ind n ih=>
  intro b hb;have key:∀d:Nat,d<10->∀b:UInt8,b=UInt8.ofNat (48+d)->Ax b.toNat=true:=fun d hd b e=>by
   rw[e,UInt8.toNat_ofNat_of_lt' (by show 48+d<256;omega)];simp[Ax];omega
  rw[Lib.decDigits]at hb;split at hb
  ·rename_i h;exact key n h b (Ac3.1 hb)
  ·rename_i h;rcases Ack.1 hb with hb|hb
   ·exact ih (n / 10) Ad2 b hb
   ·exact key (n % 10) Ad2 b (Ac3.1 hb)
theorem dH {c:UInt8}(h:Ax c.toNat=true):A3 c.toNat=false:=by
 simp only[Ax,A3,Abj,Adx,Bool.and_eq_false_iff,decide_eq_false_iff_not]at h⊢;omega
theorem UT.num {t:Tx}(h:UT t)(hv:Af t=false){c:UInt8}(hc:c∈t):A3 c.toNat=false:=by
 rcases h.1 with h1|⟨-,h1,h2,-⟩
 ·rw[hv]at h1;cases h1
 ·rw[<-h1]at hc;unfold Lib.itoa at hc;rw[if_neg Ad2]at hc;exact dH (nU _ c hc)
theorem Zj {w:Tx}(h:UT w)(j:St):ACalls Tryz.prog 149 [ag [sc (.bool (Ap w).1),sc (.int .i64 (Ap w).2)]] j fun r j'=>r=str w/\Keep j j':=by
 have:=Zk (Ap w) h.dec.2 j;rwa[h.dec.1]at this
theorem W3 (N:List Tx)(idn ids:Nat)(a:RAtom)(ha:a.pred∈N)(hN:N.length<=2000)(hn:a.terms.length<=1000)(hpl:a.pred.length<=1000)(hw:∀t∈a.terms,UT t)(j:St):
  ACalls Tryz.prog 265 [ag [sc (.int .i64 (N.idxOf a.pred:Nat)),sl ids a.terms.length (Aw a.terms)],sl idn N.length (N.map str)] j fun r j'=>r=sc (.int .i64 ((A9 a).length:Nat))/\Keep j j':=by
 have ar:=Ea a.terms;have aj:=Ac1 ha;have an:(N.map str).drop (N.idxOf a.pred)=str a.pred::(N.map str).drop (N.idxOf a.pred+1):=by
  have:=Cm aj;rwa[Ac0 aj]at this
 generalize N.idxOf a.pred=ix at aj an;refine Z9 34 [.tmp 4] Tryz.func265 ?_
 repeat' (first|refine Z1 ?_|(refine Z8 ?_;intro κ hκ)|(refine Z4 ?_;clear hκ κ)|(refine Z2 ?_ ?_<;>intro h ab<;>try exact Xp)|refine Z3 ?_|exact⟨⟩|(apply hκ.out;clear hκ κ))
 refine Ad (fun m s j'=>∃(k n:Nat),m=a.terms.length-k/\k<=a.terms.length/\s 5=sc (.int .i64 n)/\s 16=sl ids a.terms.length (Aw a.terms)/\s 17=sc (.int .i64 a.terms.length)/\s 18=sc (.int .i64 k)/\Keep j j'/\n<=1002+k*1001/\Ad8 (n=a.pred.length+2+(A2 (a.terms.take k)).length)) a.terms.length
  ⟨0,a.pred.length+2,Ad2,Ad2,Ad4,Ad4,Ad4,rfl,Xs,Ad2,by simp[Ad8,A2]⟩ ?_
 rintro m s j' ⟨k,n,rfl,hk,h5,ax,aw,av,hK,au,hA⟩;have ao:=hK.nobj;by_cases af:k<a.terms.length
 ·have aa:=List.getElem?_eq_getElem af;have hu:=hw a.terms[k] (Acz af);obtain⟨r,hd⟩:=E5 aa;generalize a.terms[k]=w at aa hu hd;have ad:Ad8 (a.pred.length+2+(A2 (a.terms.take (k+1))).length=n+((if k=0 then 0 else 1)+w.length)):=by
   rw[Ad8,Abq,aa,Ac2,Rb,hA.out];have e:(a.terms.take k=[])↔k=0:=by
    rw[List.take_eq_nil_iff];constructor
    ·rintro (h|h)
     ·exact h
     ·rw[h]at af;cases af
    ·exact .inl
   by_cases h0:k=0
   ·rw[if_pos (e.2 h0),if_pos h0];simp;omega
   ·rw[if_neg (fun h=>h0 (e.1 h)),if_neg h0];simp;omega
  have hT:=fun j=>Zj hu j;have ap:=hu.2.2.1;clear aa hA hu;by_cases ae:k=0
  ·have am:decide ((0:Int)<(k:Int))=false:=by simp[ae]
   have ad:Ad8 (n+w.length=a.pred.length+2+(A2 (a.terms.take (k+1))).length):=by rw[Ad8,ad.out,if_pos ae];omega
   clear ae
   repeat' (first|refine Z1 ?_|(refine Z8 ?_;intro κ hκ)|(refine Z4 ?_;clear hκ κ)|(refine Z2 ?_ ?_<;>intro h ab<;>try exact Xp)|(refine Z5 ?_;refine Xi (hT _) ?_;rintro _ _ ⟨rfl,ac⟩;(have ah:=ac.obj;have ai:=ac.nobj))|refine Z3 ?_|exact⟨⟩|(apply hκ.out;clear hκ κ))
   refine⟨a.terms.length-(k+1),Ad2,k+1,n+w.length,?_⟩
   ((repeat' with_reducible refine And.intro ?_ ?_)<;>first|exact Xq|exact (((hK.new _).put hK.nobj _).trans ac)|exact (ad)|exact Xs)
  ·have am:decide ((0:Int)<(k:Int))=true:=by simp;omega
   have ad:Ad8 (n+1+w.length=a.pred.length+2+(A2 (a.terms.take (k+1))).length):=by rw[Ad8,ad.out,if_neg ae];omega
   clear ae
   repeat' (first|refine Z1 ?_|(refine Z8 ?_;intro κ hκ)|(refine Z4 ?_;clear hκ κ)|(refine Z2 ?_ ?_<;>intro h ab<;>try exact Xp)|(refine Z5 ?_;refine Xi (hT _) ?_;rintro _ _ ⟨rfl,ac⟩;(have ah:=ac.obj;have ai:=ac.nobj))|refine Z3 ?_|exact⟨⟩|(apply hκ.out;clear hκ κ))
   refine⟨a.terms.length-(k+1),Ad2,k+1,n+1+w.length,?_⟩
   ((repeat' with_reducible refine And.intro ?_ ?_)<;>first|exact Xq|exact (((hK.new _).put hK.nobj _).trans ac)|exact (ad)|exact Xs)
 ·have ak:k=a.terms.length:=Ad2;subst ak;have HA:Ad8 ((A9 a).length=n):=by
   rw[Ad8,hA.out,Abn];simp[A9];omega
  clear hA
  repeat' (first|refine Z1 ?_|(refine Z8 ?_;intro κ hκ)|(refine Z4 ?_;clear hκ κ)|(refine Z2 ?_ ?_<;>intro h ab<;>try exact Xp)|refine Z3 ?_|exact⟨⟩|(apply hκ.out;clear hκ κ))
  first
  |exact⟨_,rfl,by rw[HA.out],hK⟩
  |exact⟨_,rfl,by rw[HA.out]⟩
structure xW (N:List Tx)(x:RItem):Prop where
 out:x.out=true->x.body=[]
 body:x.body.length<=1000
 mem:x.head.pred∈N
 hpl:x.head.pred.length<=1000
 at_:∀a∈Ag x,a.terms.length<=3/\a.pred.length<=1000/\∀t∈a.terms,UT t
theorem eW {ts:List Tx}(h:ts.length<=3)(g:∀t∈ts,UT t):(A2 ts).length<=4000:=by
 have key:∀ts:List Tx,(∀t∈ts,UT t)->(A8 ts).length<=ts.length*1001:=by
  intro ts;induction ts with
  |nil=>intro _;simp[A8]
  |cons t ts ih=>
   intro h;have h1:=ih fun u hu=>h u (by simp[hu]);have h2:=(h t (by simp)).2.2.1;unfold A8 at*
   simp only[Acv,Ab2,Aca];omega
 cases ts with
 |nil=>simp[A2]
 |cons t ts=>
  have h1:=key ts fun u hu=>g u (by simp[hu]);have h2:=(g t (by simp)).2.2.1;simp only[Aca]at h;rw[A2,Ab2];omega
theorem K0 {a:RAtom}(h:a.terms.length<=3/\a.pred.length<=1000/\∀t∈a.terms,UT t):(A9 a).length<=6000:=by
 have:=eW h.1 h.2.2;have:=h.2.1;simp[A9];omega
def Qa (ls:List RAtom)(k:Nat):Nat:=if k=0 then 0 else 2+(A2 ((ls.take k).map Bg)).length
theorem nH {ls:List RAtom}{k:Nat}{a:RAtom}(h:ls[k]?=some a):Qa ls (k+1)=Qa ls k+(if k=0 then 1 else 0)+(if a.nt=true then 1 else 0)+(1+(A9 a).length):=by
 unfold Qa;rw[if_neg Ad2,Abq,h,Ac2,Abt,List.map_singleton,Rb];have hk:=(List.getElem?_eq_some_iff.1 h).1;have aa:(Bg a).length=(if a.nt=true then 1 else 0)+(A9 a).length:=by unfold Bg;split<;>simp;omega
 by_cases h0:k=0
 ·subst h0;simp only[List.take_zero,Aby,if_true,Aci,A2,Ab9,aa];omega
 ·have e:(ls.take k).map Bg≠[]:=fun e=>by
   have:=congrArg List.length e;simp at this;rcases this with h|h
   ·exact h0 h
   ·rw[h]at hk;cases hk
  rw[if_neg h0,if_neg h0,if_neg e];simp only[Ab2,Acu,aa];omega
theorem nK (N:List Tx)(idn:Nat)(x:RItem)(c:List AV)(hc:PI N x c)(hN:N.length<=2000)(hm:xW N x)(j:St):
  ACalls Tryz.prog 243 [ag c,sl idn N.length (N.map str)] j fun r j'=>r=sc (.int .i64 ((A0 x++[46]).length:Nat))/\Keep j j':=by
 obtain⟨ax,ih,id,b,hb,rfl⟩:=hc;have a9:=EL.length Dm hb;have ba:=hm.body;have a8:=hm.hpl;have an:=Ac1 ax;have az:(N.map str).drop (N.idxOf x.head.pred)=str x.head.pred::(N.map str).drop (N.idxOf x.head.pred+1):=by
  have:=Cm an;rwa[Ac0 an]at this
 cases ap:x.out with
 |true=>
  have HL:Ad8 (((A0 x++[46]).length:Nat)=2+x.head.pred.length):=by
   rw[Ad8,A0,if_pos ap];simp;omega
  clear hm;generalize N.idxOf x.head.pred=ix at an az;refine Z9 48 [.tmp 4] Tryz.func243 ?_
  repeat' (first|refine Z1 ?_|(refine Z8 ?_;intro κ hκ)|(refine Z4 ?_;clear hκ κ)|(refine Z2 ?_ ?_<;>intro h ad<;>try exact Xp)|refine Z3 ?_|exact⟨⟩|(apply hκ.out;clear hκ κ))
  exact⟨_,rfl,by rw[HL.out];simp,Xs⟩
 |false=>
  have au:=hm.at_;have hh:=au x.head (Ay (.inl ⟨ap,rfl⟩));have ao:=fun ids j=>W3 N idn ids x.head ax hN Ad2 hh.2.1 hh.2.2 j;have ar:=K0 hh;have HL:Ad8 ((A0 x++[46]).length=(A9 x.head).length+1+Qa x.body x.body.length):=by
   rw[Ad8,A0,if_neg (by simp[ap]),Cw,Qa,Abn];by_cases he:x.body=[]
   ·simp[he]
   ·have hne:x.body.length≠0:=fun e=>he (Abl e);rw[if_neg he,if_neg hne];simp;omega
  have a5:∀a∈x.body,a.terms.length<=3/\a.pred.length<=1000/\∀t∈a.terms,UT t:=fun a ha=>au a (Ay (.inr ha));clear hm au hh;generalize N.idxOf x.head.pred=ix at an az ao;generalize (A9 x.head).length=hn at ao ar HL;refine Z9 48 [.tmp 4] Tryz.func243 ?_
  repeat' (first|refine Z1 ?_|(refine Z8 ?_;intro κ hκ)|(refine Z4 ?_;clear hκ κ)|(refine Z2 ?_ ?_<;>intro h ad<;>try exact Xp)|(refine Z5 ?_;refine Xi (ao _ _) ?_;rintro _ _ ⟨rfl,aw⟩;(have ak:=aw.nobj;have aj:=aw.obj;simp only[Aa]at ak aj))|refine Z3 ?_|exact⟨⟩|(apply hκ.out;clear hκ κ))
  rename_i j1
  refine Ad (fun m s j'=>∃(k n:Nat),m=x.body.length-k/\k<=x.body.length/\s 1=sl idn N.length (N.map str)/\s 5=sc (.int .i64 n)/\s 24=sl id x.body.length b/\s 25=sc (.int .i64 x.body.length)/\s 26=sc (.int .i64 k)/\Keep j j'/\n<=6001+k*7000/\Ad8 (n=hn+1+Qa x.body k)) x.body.length
   ⟨0,hn+1,Ad2,Ad2,rfl,Ad4,Ad4,Ad4,rfl,Xs,Ad2,by simp[Ad8,Qa]⟩ ?_
  clear ak aj aw ao;rintro m s j' ⟨k,n,rfl,hk,h1,h5,bd,bc,bb,hK,a7,hA⟩;have a6:=hK.nobj;by_cases ay:k<x.body.length
  ·have af:=List.getElem?_eq_getElem ay;have am:=a5 x.body[k] (Acz ay);obtain⟨c0,r,⟨a0,ida,rfl⟩,hd⟩:=EL.get Dm hb af;generalize x.body[k]=a at af am hd a0;have ai:=fun ids j=>W3 N idn ids a a0 hN Ad2 am.2.1 am.2.2 j;have av:=K0 am;have ac:Ad8 (hn+1+Qa x.body (k+1)=n+((if k=0 then 1 else 0)+(if a.nt=true then 1 else 0)+(1+(A9 a).length))):=by
    rw[Ad8,nH af,hA.out];omega
   clear af hA am;generalize (A9 a).length=la at ai av ac;generalize N.idxOf a.pred=ia at ai hd;simp only[Acg,Aci]at hd;by_cases ae:k=0
   ·have a4:((k:Int)==0)=true:=by simp[ae]
    cases hnt:a.nt with
    |true=>
     rw[hnt]at hd;have ac:Ad8 (n+(1+la)+1+1=hn+1+Qa x.body (k+1)):=by rw[Ad8,ac.out,if_pos ae,if_pos hnt];omega
     clear ae hnt
     repeat' (first|refine Z1 ?_|(refine Z8 ?_;intro κ hκ)|(refine Z4 ?_;clear hκ κ)|(refine Z2 ?_ ?_<;>intro h ad<;>try exact Xp)|(refine Z5 ?_;refine Xi (ai _ _) ?_;rintro _ _ ⟨rfl,ab⟩;(have ah:=ab.obj;have aa:=ab.nobj;simp only[Ab,Aa]at aa))|refine Z3 ?_|exact⟨⟩|(apply hκ.out;clear hκ κ))
     refine⟨x.body.length-(k+1),Ad2,k+1,n+(1+la)+1+1,?_⟩
     ((repeat' with_reducible refine And.intro ?_ ?_)<;>first|exact Xq|exact (((hK.new _).put hK.nobj _).trans ab)|exact (ac)|exact Xs)
    |false=>
     rw[hnt]at hd;have ac:Ad8 (n+(1+la)+1=hn+1+Qa x.body (k+1)):=by rw[Ad8,ac.out,if_pos ae,if_neg (by simp[hnt])];omega
     clear ae hnt
     repeat' (first|refine Z1 ?_|(refine Z8 ?_;intro κ hκ)|(refine Z4 ?_;clear hκ κ)|(refine Z2 ?_ ?_<;>intro h ad<;>try exact Xp)|(refine Z5 ?_;refine Xi (ai _ _) ?_;rintro _ _ ⟨rfl,ab⟩;(have ah:=ab.obj;have aa:=ab.nobj;simp only[Ab,Aa]at aa))|refine Z3 ?_|exact⟨⟩|(apply hκ.out;clear hκ κ))
     refine⟨x.body.length-(k+1),Ad2,k+1,n+(1+la)+1,?_⟩
     ((repeat' with_reducible refine And.intro ?_ ?_)<;>first|exact Xq|exact (((hK.new _).put hK.nobj _).trans ab)|exact (ac)|exact Xs)
   ·have a4:((k:Int)==0)=false:=by simp;omega
    cases hnt:a.nt with
    |true=>
     rw[hnt]at hd;have ac:Ad8 (n+(1+la)+1=hn+1+Qa x.body (k+1)):=by rw[Ad8,ac.out,if_neg ae,if_pos hnt];omega
     clear ae hnt
     repeat' (first|refine Z1 ?_|(refine Z8 ?_;intro κ hκ)|(refine Z4 ?_;clear hκ κ)|(refine Z2 ?_ ?_<;>intro h ad<;>try exact Xp)|(refine Z5 ?_;refine Xi (ai _ _) ?_;rintro _ _ ⟨rfl,ab⟩;(have ah:=ab.obj;have aa:=ab.nobj;simp only[Ab,Aa]at aa))|refine Z3 ?_|exact⟨⟩|(apply hκ.out;clear hκ κ))
     refine⟨x.body.length-(k+1),Ad2,k+1,n+(1+la)+1,?_⟩
     ((repeat' with_reducible refine And.intro ?_ ?_)<;>first|exact Xq|exact (((hK.new _).put hK.nobj _).trans ab)|exact (ac)|exact Xs)
    |false=>
     rw[hnt]at hd;have ac:Ad8 (n+(1+la)=hn+1+Qa x.body (k+1)):=by rw[Ad8,ac.out,if_neg ae,if_neg (by simp[hnt])];omega
     clear ae hnt
     repeat' (first|refine Z1 ?_|(refine Z8 ?_;intro κ hκ)|(refine Z4 ?_;clear hκ κ)|(refine Z2 ?_ ?_<;>intro h ad<;>try exact Xp)|(refine Z5 ?_;refine Xi (ai _ _) ?_;rintro _ _ ⟨rfl,ab⟩;(have ah:=ab.obj;have aa:=ab.nobj;simp only[Ab,Aa]at aa))|refine Z3 ?_|exact⟨⟩|(apply hκ.out;clear hκ κ))
     refine⟨x.body.length-(k+1),Ad2,k+1,n+(1+la),?_⟩
     ((repeat' with_reducible refine And.intro ?_ ?_)<;>first|exact Xq|exact (((hK.new _).put hK.nobj _).trans ab)|exact (ac)|exact Xs)
  ·have a3:k=x.body.length:=Ad2;subst a3;have HA:Ad8 ((A0 x++[46]).length=n):=by rw[Ad8,HL.out,hA.out]
   clear hA HL
   repeat' (first|refine Z1 ?_|(refine Z8 ?_;intro κ hκ)|(refine Z4 ?_;clear hκ κ)|(refine Z2 ?_ ?_<;>intro h ad<;>try exact Xp)|refine Z3 ?_|exact⟨⟩|(apply hκ.out;clear hκ κ))
   first
   |exact⟨_,rfl,by rw[HA.out],hK⟩
   |exact⟨_,rfl,by rw[HA.out]⟩
end Go.Proofs.YtmoeoppbmhfbpabGreatDoorH
