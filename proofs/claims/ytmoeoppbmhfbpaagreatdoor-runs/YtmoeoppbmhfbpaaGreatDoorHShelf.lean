import Derived.Shelf.Strconv.Itoa3
import Derived.Test.YtmoeoppbmhfbpaaGreatDoorProg
import Derived.Test.YtmoeoppbmhfbpaaGreatDoorHAbsWp
import Derived.Test.YtmoeoppbmhfbpaaGreatDoorHProgO
import Derived.Test.YtmoeoppbmhfbpaaGreatDoorHLawA
set_option maxHeartbeats 16000000
set_option maxRecDepth 100000
set_option linter.all false
namespace Go.Proofs
open Go.Shelf
def Tryz.laysM171_ren:Go.Shelf.Ren:=⟨fun|171=>69|243=>119|246=>162|283=>200|284=>201|285=>202|286=>203|129=>238|317=>237|318=>239|319=>240|320=>241|337=>265|338=>266|n=>n,fun|3=>3|9=>9|2=>2|4=>4|171=>246|0=>0|53=>247|37=>204|5=>5|173=>250|212=>283|51=>284|20=>20|213=>285|46=>286|232=>303|233=>304|n=>n,fun|17=>0|18=>1|19=>2|n=>n⟩
theorem Tryz.laysM171:Go.Proofs.LaysM.n171 Tryz.prog Tryz.laysM171_ren:={
 mixed:=by kernel_rfl
 f129:=Tryz.func238.trans (congrArg some (by kernel_rfl))
 f171:=Tryz.func69.trans (congrArg some (by kernel_rfl))
 f243:=Tryz.func119.trans (congrArg some (by kernel_rfl))
 f246:=Tryz.func162.trans (congrArg some (by kernel_rfl))
 f283:=Tryz.func200.trans (congrArg some (by kernel_rfl))
 f284:=Tryz.func201.trans (congrArg some (by kernel_rfl))
 f285:=Tryz.func202.trans (congrArg some (by kernel_rfl))
 f286:=Tryz.func203.trans (congrArg some (by kernel_rfl))
 f317:=Tryz.func237.trans (congrArg some (by kernel_rfl))
 f318:=Tryz.func239.trans (congrArg some (by kernel_rfl))
 f319:=Tryz.func240.trans (congrArg some (by kernel_rfl))
 f320:=Tryz.func241.trans (congrArg some (by kernel_rfl))
 f337:=Tryz.func265.trans (congrArg some (by kernel_rfl))
 f338:=Tryz.func266.trans (congrArg some (by kernel_rfl))
 t0:=Tryz.underlying0
 a0:=Tryz.isAgg0
 z0:=Tryz.sizeOf0
 v0:=Tryz.zeroValue0
 t2:=Tryz.underlying2
 a2:=Tryz.isAgg2
 z2:=Tryz.sizeOf2
 v2:=Tryz.zeroValue2
 t3:=Tryz.underlying3
 a3:=Tryz.isAgg3
 z3:=Tryz.sizeOf3
 v3:=Tryz.zeroValue3
 t4:=Tryz.underlying4
 a4:=Tryz.isAgg4
 z4:=Tryz.sizeOf4
 v4:=Tryz.zeroValue4
 t5:=Tryz.underlying5
 a5:=Tryz.isAgg5
 z5:=Tryz.sizeOf5
 v5:=Tryz.zeroValue5
 t9:=Tryz.underlying9
 a9:=Tryz.isAgg9
 z9:=Tryz.sizeOf9
 v9:=Tryz.zeroValue9
 t20:=Tryz.underlying20
 a20:=Tryz.isAgg20
 z20:=Tryz.sizeOf20
 v20:=Tryz.zeroValue20
 t37:=Tryz.underlying204
 a37:=Tryz.isAgg204
 z37:=Tryz.sizeOf204
 v37:=Tryz.zeroValue204
 t46:=Tryz.underlying286
 a46:=Tryz.isAgg286
 z46:=Tryz.sizeOf286
 v46:=Tryz.zeroValue286
 t51:=Tryz.underlying284
 a51:=Tryz.isAgg284
 z51:=Tryz.sizeOf284
 v51:=Tryz.zeroValue284
 t53:=Tryz.underlying247
 a53:=Tryz.isAgg247
 z53:=Tryz.sizeOf247
 v53:=Tryz.zeroValue247
 t171:=Tryz.underlying246
 a171:=Tryz.isAgg246
 z171:=Tryz.sizeOf246
 v171:=Tryz.zeroValue246
 t173:=Tryz.underlying250
 a173:=Tryz.isAgg250
 z173:=Tryz.sizeOf250
 v173:=Tryz.zeroValue250
 t212:=Tryz.underlying283
 a212:=Tryz.isAgg283
 z212:=Tryz.sizeOf283
 v212:=Tryz.zeroValue283
 t213:=Tryz.underlying285
 a213:=Tryz.isAgg285
 z213:=Tryz.sizeOf285
 t232:=Tryz.underlying303
 a232:=Tryz.isAgg303
 z232:=Tryz.sizeOf303
 v232:=Tryz.zeroValue303
 t233:=Tryz.underlying304
 a233:=Tryz.isAgg304
 z233:=Tryz.sizeOf304
 v233:=Tryz.zeroValue304
 g17:=by kernel_rfl
 g18:=by kernel_rfl
 g19:=by kernel_rfl
 i0:=by kernel_rfl
 i2:=by kernel_rfl
 i3:=by kernel_rfl
 i4:=by kernel_rfl
 i5:=by kernel_rfl
 i9:=by kernel_rfl
 i20:=by kernel_rfl
 i37:=by kernel_rfl
 i46:=by kernel_rfl
 i51:=by kernel_rfl
 i53:=by kernel_rfl
 i171:=by kernel_rfl
 i173:=by kernel_rfl
 i212:=by kernel_rfl
 i232:=by kernel_rfl
 i233:=by kernel_rfl
 m17:=by kernel_rfl
 m18:=by kernel_rfl
 m19:=by kernel_rfl}
end Go.Proofs
namespace Go.Proofs.YtmoeoppbmhfbpaaGreatDoorH
open Go.Abs Go.Sort
open Go.RowKit (Below)
theorem Ky (w:World)(k:Nat)(os:Array Obj){b:Nat}(h:b<w.heap.size):(grow (w.drewN k) os).heap[b]?=w.heap[b]?:=by
 show (w.heap++os)[b]?=w.heap[b]?;exact Array.getElem?_append_left h
theorem oJ (w:World)(k:Nat)(os:Array Obj){b o:Nat}(h:b<w.heap.size):(grow (w.drewN k) os).cell? ⟨b,o,none⟩=w.cell? ⟨b,o,none⟩:=by
 unfold World.cell?;rw[Ky w k os h]
theorem oE {G:Gh}{D:St}{w:World}(I:Abs.Inv G D w)(k:Nat)(os:Array Obj):Abs.Inv G D (grow (w.drewN k) os)/\Ext G D w G D (grow (w.drewN k) os):=by
 have E:Ext G D w G D (grow (w.drewN k) os):=⟨rfl,rfl,Aak _,fun _ _=>rfl,Aak _,fun _ _=>⟨Aak _,rfl,fun _=>⟨rfl,rfl⟩⟩,fun b off p=>⟨p,oJ w k os (I.perlt _ _ p)⟩,fun o h=>⟨Aak _,fun _=>Ky w k os (I.blk_lt h)⟩⟩;have aa:w.heap.size<=(grow (w.drewN k) os).heap.size:=by
  show w.heap.size<=(w.heap++os).size;rw[Array.size_append];omega
 refine⟨⟨fun p hp=>?_,I.inj,fun k hk=>?_,I.linj,I.apart,fun b off p=>Aam (I.perlt _ _ p) aa,I.perlo,?_,Aal I.le aa,I.hyp⟩,E⟩
 ·obtain⟨h1,h2,h3⟩:=I.obj p hp;refine⟨h1,Aam h2 aa,fun ab=>?_⟩;obtain⟨⟨arr,e,hb,ha⟩,h4⟩:=h3 ab;exact⟨⟨arr,e,by rw[Ky _ _ _ (I.blk_lt hp)];exact hb,VR.all E ha⟩,h4⟩
 ·obtain⟨h1,⟨arr,e,hb,ha⟩,h3⟩:=I.lin k hk;exact⟨h1,⟨arr,e,by rw[Ky _ _ _ (I.cur_lt hk)];exact hb,ha⟩,h3⟩
 ·have hb:=I.below;have hl:=I.le;exact⟨hb.os,hb.tape,hb.output,Aal hb.size aa,fun j hj=>by rw[Ky _ _ _ Ad2];exact hb.block j hj⟩
theorem oD (n:Int)(h0:0<=n)(h1:n<=9999)(D:St):ACalls Tryz.prog 69 [sc (.int .i64 n)] D fun x D'=>x=str (Lib.itoa n)/\D'=D:=by
 refine⟨Ad5,fun G w cargs I A=>?_⟩;obtain⟨v,rfl⟩:∃v,cargs=#[v]:=by
  have hl:=A.1
  match cargs,hl with
  |⟨[v]⟩,_=>exact⟨v,rfl⟩
 have hv:v= .int .i64 n:=(A.2 0 v _ rfl rfl).unfold;subst hv;refine (Any.strconv_Itoa Tryz.laysM171 n Ad2 Ad2 w (I.hyp w I.below)).mono ?_;rintro e w' ⟨rfl,k,os,rfl⟩;obtain⟨I',E⟩:=oE I k os;exact⟨_,G,_,D,rfl,I',E,VR.sc _,rfl,rfl⟩
open Go.Abs
def DT (w:Tx):Prop:=Ag w=true\/(Ag w=false/\Lib.itoa (Bu w).2=w/\0<=(Bu w).2/\(Bu w).2<=999)
theorem aE {b:UInt8}{m:Nat}(h:b.toNat=m):UInt8.ofNat m=b:=by rw[<-h];exact UInt8.ofNat_toNat
theorem K2 {v d:Nat}(hv:1<=v)(hd:d<=9):Lib.decDigits (v*10+d)=Lib.decDigits v++[UInt8.ofNat (48+d)]:=by
 rw[Lib.decDigits,dif_neg Ad2,show (v*10+d) / 10=v by omega,show (v*10+d) % 10=d by omega]
theorem Y7 {w:Tx}{m:Nat}(hv:Ag w=false)(hw:w≠[])(hn:Hb w=(m:Int))(hm:m<=999)(hd:Lib.decDigits m=w):DT w:=by
 cases w with
 |nil=>exact absurd rfl hw
 |cons b r=>
  refine .inr ⟨hv,?_⟩;rw[Od hv];dsimp only;rw[hn];exact⟨by rw[Lib.itoa_nonneg,hd],Ad2,Ad2⟩
theorem Nt (s w r:Tx)(h:Ce s= .got w r):DT w:=by
 cases s with
 |nil=>cases h
 |cons b q=>
  unfold Ce at h;dsimp only at h;split at h
  ·rename_i hl;cases h;exact .inl hl
  rename_i hl;have hl:B6 b.toNat=false:=by simpa using hl
  split at h
  ·rename_i h0;cases h;have ad:b.toNat=48:=by
    have:(b.toNat:Int)=48:=by simpa using h0
    omega
   exact Y7 (m:=0) hl (by simp) (by simp[Hb,ad]) Ad2 (by rw[Lib.decDigits_one Ad2,aE ad])
  split at h
  ·rename_i h9;cases h;have hb:49<=b.toNat/\b.toNat<=57:=by simp[Fx]at h9;omega
   have aa:=(D3 Az 2 q).2;have ac:(Ar Az 2 q).1.length<=2:=by
    cases q with
    |nil=>simp[Ar]
    |cons c q=>
     unfold Ar;split
     ·cases q with
      |nil=>simp[Ar]
      |cons d q=>unfold Ar;split<;>simp[Ar]
     ·simp
   have ab:∀c:UInt8,Az c.toNat=true->48<=c.toNat/\c.toNat<=57:=fun c hc=>by simp[Az]at hc;omega
   have d1:Lib.decDigits (b.toNat-48)=[b]:=by rw[Lib.decDigits_one Ad2,aE (show b.toNat=48+(b.toNat-48)by omega)]
   generalize (Ar Az 2 q).1=ds at aa ac
   match ds,aa,ac with
   |[],_,_=>exact Y7 (m:=b.toNat-48) hl (by simp) (by simp[Hb];omega) Ad2 d1
   |[c],aa,_=>
    have hc:=ab c (aa c (by simp));have d2:Lib.decDigits ((b.toNat-48)*10+(c.toNat-48))=[b,c]:=by rw[K2 Ad2 Ad2,d1,aE (show c.toNat=48+(c.toNat-48)by omega)];rfl
    exact Y7 (m:=(b.toNat-48)*10+(c.toNat-48)) hl (by simp) (by simp[Hb];omega) Ad2 d2
   |[c,d],aa,_=>
    have hc:=ab c (aa c (by simp));have hd:=ab d (aa d (by simp));have d2:Lib.decDigits ((b.toNat-48)*10+(c.toNat-48))=[b,c]:=by rw[K2 Ad2 Ad2,d1,aE (show c.toNat=48+(c.toNat-48)by omega)];rfl
    have d3:Lib.decDigits (((b.toNat-48)*10+(c.toNat-48))*10+(d.toNat-48))=[b,c,d]:=by rw[K2 Ad2 Ad2,d2,aE (show d.toNat=48+(d.toNat-48)by omega)];rfl
    exact Y7 (m:=((b.toNat-48)*10+(c.toNat-48))*10+(d.toNat-48)) hl (by simp) (by simp[Hb];omega) Ad2 d3
  ·cases h
def Im (l:List Tx)(s:Tx):Int:=if s∈l then ((l.idxOf s:Nat):Int)else -1
theorem Hn (l:List Tx)(ids:Nat)(n:Tx)(hl:l.length<=10000000)(D:St):ACalls Tryz.prog 91 [sl ids l.length (l.map str),str n] D fun x D'=>x=sc (.int .i64 (Im l n))/\D'=D:=by
 refine Z9 19 [.tmp 4] Tryz.func91 ?_
 repeat' (first|refine Z1 ?_|(refine Z8 ?_;intro ya J)|(refine Z4 ?_;clear J ya)|(refine Z2 ?_ ?_<;>intro h aa<;>try exact Xp)|refine Z7 ?_|exact Zt|(apply J.out;clear J ya))
 refine Ab (fun m s' D'=>∃i:Nat,m=l.length-i/\i<=l.length/\s' 0=sl ids l.length (l.map str)/\s' 1=str n/\s' 5=sc (.int .i64 i)/\D'=D/\Ad8 (∀a,a<i->l[a]?≠some n)) l.length
  ⟨0,Ad2,Ad2,rfl,rfl,rfl,rfl,fun a ha=>Ad2⟩ ?_
 rintro m s' D' ⟨i,rfl,hi,h0,h1,h5,hD,ab⟩;subst hD;by_cases ad:i<l.length
 ·have ae:=Bc ad;have HX:Ad8 (l[i]?=some l[i]):=Aav ad;generalize l[i]=w at ae HX
  repeat' (first|refine Z1 ?_|(refine Z8 ?_;intro ya J)|(refine Z4 ?_;clear J ya)|(refine Z2 ?_ ?_<;>intro h aa<;>try exact Xp)|refine Z7 ?_|exact Zt|(apply J.out;clear J ya))
  ·have hw:w=n:=by simpa using h
   subst hw;have ac:w∈l:=Aax HX.out;exact⟨_,rfl,by rw[Im,if_pos ac,Pj ab.out HX.out]⟩
  ·have hw:w≠n:=by simpa using h
   refine⟨l.length-(i+1),Ad2,i+1,rfl,Ad2,by simp,?_⟩;intro a ha;by_cases ai:a=i
   ·subst ai;rw[HX.out];simpa using hw
   ·exact ab.out a Ad2
 ·have ah:i=l.length:=Ad2;subst ah;have af:=S6 ab.out
  repeat' (first|refine Z1 ?_|(refine Z8 ?_;intro ya J)|(refine Z4 ?_;clear J ya)|(refine Z2 ?_ ?_<;>intro h aa<;>try exact Xp)|refine Z7 ?_|exact Zt|(apply J.out;clear J ya))
  exact⟨_,rfl,by rw[Im,if_neg af]⟩
def Qp (k:Int):UInt8:=UInt8.ofNat (IntKind.u8.wrap (IntKind.i64.wrap (65+Int.tmod k 26))).toNat
def Ou (l:List Tx)(t:Tx):Tx:=if Ag t=true then [Qp (Im l t)]else t
def L9 (k:Nat):Tx:=if k=0 then [40]else [44]
def Jm (l:List Tx):Nat->List Tx->Tx
 |_,[]=>[]
 |k,t::ts=>L9 k++Ou l t++Jm l (k+1) ts
theorem Ov (l:List Tx):∀(ts:List Tx) (k:Nat) (t:Tx),Jm l k (ts++[t])=Jm l k ts++(L9 (k+ts.length)++Ou l t)
 |[],k,t=>by simp[Jm]
 |u::ts,k,t=>by
  rw[Aci,Jm,Ov l ts (k+1) t,Jm];simp only[Abl,Abv];rw[show k+1+ts.length=k+(ts.length+1)by omega]
def Gy (l:List Tx)(a:RAtom):Tx:=(if a.nt=true then [33]else [])++a.pred++Jm l 0 a.terms++[41]
def short (a:RAtom):Prop:=a.pred.length<=1000/\a.terms.length<=1000/\∀t∈a.terms,t.length<=1000
theorem Yc (l:List Tx)(t:Tx)(h:t.length<=1000):(Ou l t).length<=1000:=by unfold Ou;split<;>simp[h]
theorem Q5 (l:List Tx):∀(ts:List Tx) (k:Nat),(∀t∈ts,t.length<=1000)->(Jm l k ts).length<=ts.length*1001
 |[],k,h=>by simp[Jm]
 |t::ts,k,h=>by
  have h1:=Yc l t (h t (by simp));have h2:=Q5 l ts (k+1) fun u hu=>h u (by simp[hu]);have h3:(L9 k).length=1:=by unfold L9;split<;>rfl
  simp only[Jm,Abj,Abv];omega
def jS (a:RAtom):Tx:=(if a.nt=true then [33]else [])++a.pred
theorem fO (l:List Tx)(ids:Nat)(a:RAtom)(c:List AV)(hc:Be a c)(hl:l.length<=10000000)(hs:short a)(D:St):ACalls Tryz.prog 143 [ag c,sl ids l.length (l.map str)] D fun r D'=>r=str (Gy l a)/\Keep D D':=by
 obtain⟨ia,rfl⟩:=hc;obtain⟨a3,a0,ap⟩:=hs;have a4:({data:=#[33]}:ByteArray)=bs [33]:=rfl;refine Z9 47 [.tmp 4] Tryz.func143 ?_;cases hnt:a.nt with
 |true=>
  repeat' (first|refine Z1 ?_|(refine Z8 ?_;intro ya J)|(refine Z4 ?_;clear J ya)|(refine Z2 ?_ ?_<;>intro h ab<;>try exact Xp)|refine Z7 ?_|exact Zt|(apply J.out;clear J ya))
  refine Ab (fun m s D'=>∃(k:Nat) (acc:Tx),m=a.terms.length-k/\k<=a.terms.length/\s 1=sl ids l.length (l.map str)/\s 2=ptr D.nobj 0/\s 5=str acc/\s 6=sc (.int .i64 k)/\Keep D D'/\D'.obj D.nobj=[sc (.bool a.nt),str a.pred,sl ia a.terms.length (a.terms.map str)]/\D.nobj<D'.nobj/\acc.length<=1001+k*1001/\Ad8 (acc=jS a++Jm l 0 (a.terms.take k))) a.terms.length
   ⟨0,jS a,Ad2,Ad2,rfl,rfl,by simp[upd,jS,hnt],rfl,Xs,by rw[hnt];exact Am,by simp[Aa],by simp[jS,hnt];omega,by simp[Ad8,Jm]⟩ ?_
  rintro m s D' ⟨k,acc,rfl,hk,h1,h2,h5,h6,hK,au,av,aw,hA⟩;have az:({data:=#[40]}:ByteArray)=bs [40]:=rfl;have ax:({data:=#[44]}:ByteArray)=bs [44]:=rfl;have ay:({data:=#[41]}:ByteArray)=bs [41]:=rfl;have am:∀z:UInt8,({data:=#[z]}:ByteArray)=bs [z]:=fun _=>rfl;by_cases ah:k<a.terms.length
  ·have ak:=Bc ah;have HX:Ad8 (a.terms[k]?=some a.terms[k]):=Aav ah;have ai:=ap a.terms[k] (Ab1 ah);generalize a.terms[k]=w at ak HX ai;have aa:Ad8 (jS a++Jm l 0 (a.terms.take (k+1))=acc++(L9 k++Ou l w)):=by
    rw[Ad8,Aa8,HX.out,Ab9,Ov,hA.out,Abk,Abp Ad2,Abi,Abl]
   have aj:(Ou l w).length<=1000:=Yc l w ai;have ac:(L9 k).length=1:=by unfold L9;split<;>rfl
   have HT:Ad8 ((Ou l w).length<=1000):=aj;have af:Ad8 ((L9 k).length=1):=ac;clear aj ac;by_cases ae:k=0
   ·have ao:((k:Int)==0)=true:=by simp[ae]
    have ad:Ad8 (L9 k=[40]):=by simp[Ad8,L9,ae]
    clear ae
    repeat' (first|refine Z1 ?_|(refine Z8 ?_;intro ya J)|(refine Z4 ?_;clear J ya)|(refine Z2 ?_ ?_<;>intro h ab<;>try exact Xp)|(refine Z5 ?_;first|(refine Xi (Dt _ _) ?_;rintro _ _ ⟨rfl,rfl⟩)|(refine Xi (Hn l ids w hl _) ?_;rintro _ _ ⟨rfl,rfl⟩))|refine Z7 ?_|exact Zt|(apply J.out;clear J ya))
    ·have hv:Ag w=true:=by assumption
     refine⟨a.terms.length-(k+1),Ad2,k+1,acc++(L9 k++Ou l w),rfl,Ad2,by rw[ad.out,Ou,if_pos hv];simp[Qp],by simp,Xs,by have:=HT.out;have:=af.out;simp only[Abj];omega,by rw[Ad8,aa.out]⟩
    ·have hv:Ag w=false:=by assumption
     refine⟨a.terms.length-(k+1),Ad2,k+1,acc++(L9 k++Ou l w),rfl,Ad2,by rw[ad.out,Ou,if_neg (by rw[hv];simp)];simp,by simp,by have:=HT.out;have:=af.out;simp only[Abj];omega,by rw[Ad8,aa.out]⟩
   ·have ao:((k:Int)==0)=false:=by simp;omega
    have ad:Ad8 (L9 k=[44]):=by simp[Ad8,L9,ae]
    clear ae
    repeat' (first|refine Z1 ?_|(refine Z8 ?_;intro ya J)|(refine Z4 ?_;clear J ya)|(refine Z2 ?_ ?_<;>intro h ab<;>try exact Xp)|(refine Z5 ?_;first|(refine Xi (Dt _ _) ?_;rintro _ _ ⟨rfl,rfl⟩)|(refine Xi (Hn l ids w hl _) ?_;rintro _ _ ⟨rfl,rfl⟩))|refine Z7 ?_|exact Zt|(apply J.out;clear J ya))
    ·have hv:Ag w=true:=by assumption
     refine⟨a.terms.length-(k+1),Ad2,k+1,acc++(L9 k++Ou l w),rfl,Ad2,by rw[ad.out,Ou,if_pos hv];simp[Qp],by simp,Xs,by have:=HT.out;have:=af.out;simp only[Abj];omega,by rw[Ad8,aa.out]⟩
    ·have hv:Ag w=false:=by assumption
     refine⟨a.terms.length-(k+1),Ad2,k+1,acc++(L9 k++Ou l w),rfl,Ad2,by rw[ad.out,Ou,if_neg (by rw[hv];simp)];simp,by simp,by have:=HT.out;have:=af.out;simp only[Abj];omega,by rw[Ad8,aa.out]⟩
  ·have an:k=a.terms.length:=Ad2;subst an;rw[Aa3]at hA
   repeat' (first|refine Z1 ?_|(refine Z8 ?_;intro ya J)|(refine Z4 ?_;clear J ya)|(refine Z2 ?_ ?_<;>intro h ab<;>try exact Xp)|refine Z7 ?_|exact Zt|(apply J.out;clear J ya))
   first
   |exact⟨_,rfl,by rw[hA.out];simp[Gy,jS,hnt],hK⟩
   |exact⟨_,rfl,by rw[hA.out];simp[Gy,jS,hnt]⟩
 |false=>
  repeat' (first|refine Z1 ?_|(refine Z8 ?_;intro ya J)|(refine Z4 ?_;clear J ya)|(refine Z2 ?_ ?_<;>intro h ab<;>try exact Xp)|refine Z7 ?_|exact Zt|(apply J.out;clear J ya))
  refine Ab (fun m s D'=>∃(k:Nat) (acc:Tx),m=a.terms.length-k/\k<=a.terms.length/\s 1=sl ids l.length (l.map str)/\s 2=ptr D.nobj 0/\s 5=str acc/\s 6=sc (.int .i64 k)/\Keep D D'/\D'.obj D.nobj=[sc (.bool a.nt),str a.pred,sl ia a.terms.length (a.terms.map str)]/\D.nobj<D'.nobj/\acc.length<=1001+k*1001/\Ad8 (acc=jS a++Jm l 0 (a.terms.take k))) a.terms.length
   ⟨0,jS a,Ad2,Ad2,rfl,rfl,by simp[upd,jS,hnt],rfl,Xs,by rw[hnt];exact Am,by simp[Aa],by simp[jS,hnt];omega,by simp[Ad8,Jm]⟩ ?_
  rintro m s D' ⟨k,acc,rfl,hk,h1,h2,h5,h6,hK,au,av,aw,hA⟩;have az:({data:=#[40]}:ByteArray)=bs [40]:=rfl;have ax:({data:=#[44]}:ByteArray)=bs [44]:=rfl;have ay:({data:=#[41]}:ByteArray)=bs [41]:=rfl;have am:∀z:UInt8,({data:=#[z]}:ByteArray)=bs [z]:=fun _=>rfl;by_cases ah:k<a.terms.length
  ·have ak:=Bc ah;have HX:Ad8 (a.terms[k]?=some a.terms[k]):=Aav ah;have ai:=ap a.terms[k] (Ab1 ah);generalize a.terms[k]=w at ak HX ai;have aa:Ad8 (jS a++Jm l 0 (a.terms.take (k+1))=acc++(L9 k++Ou l w)):=by
    rw[Ad8,Aa8,HX.out,Ab9,Ov,hA.out,Abk,Abp Ad2,Abi,Abl]
   have aj:(Ou l w).length<=1000:=Yc l w ai;have ac:(L9 k).length=1:=by unfold L9;split<;>rfl
   have HT:Ad8 ((Ou l w).length<=1000):=aj;have af:Ad8 ((L9 k).length=1):=ac;clear aj ac;by_cases ae:k=0
   ·have ao:((k:Int)==0)=true:=by simp[ae]
    have ad:Ad8 (L9 k=[40]):=by simp[Ad8,L9,ae]
    clear ae
    repeat' (first|refine Z1 ?_|(refine Z8 ?_;intro ya J)|(refine Z4 ?_;clear J ya)|(refine Z2 ?_ ?_<;>intro h ab<;>try exact Xp)|(refine Z5 ?_;first|(refine Xi (Dt _ _) ?_;rintro _ _ ⟨rfl,rfl⟩)|(refine Xi (Hn l ids w hl _) ?_;rintro _ _ ⟨rfl,rfl⟩))|refine Z7 ?_|exact Zt|(apply J.out;clear J ya))
    ·have hv:Ag w=true:=by assumption
     refine⟨a.terms.length-(k+1),Ad2,k+1,acc++(L9 k++Ou l w),rfl,Ad2,by rw[ad.out,Ou,if_pos hv];simp[Qp],by simp,Xs,by have:=HT.out;have:=af.out;simp only[Abj];omega,by rw[Ad8,aa.out]⟩
    ·have hv:Ag w=false:=by assumption
     refine⟨a.terms.length-(k+1),Ad2,k+1,acc++(L9 k++Ou l w),rfl,Ad2,by rw[ad.out,Ou,if_neg (by rw[hv];simp)];simp,by simp,by have:=HT.out;have:=af.out;simp only[Abj];omega,by rw[Ad8,aa.out]⟩
   ·have ao:((k:Int)==0)=false:=by simp;omega
    have ad:Ad8 (L9 k=[44]):=by simp[Ad8,L9,ae]
    clear ae
    repeat' (first|refine Z1 ?_|(refine Z8 ?_;intro ya J)|(refine Z4 ?_;clear J ya)|(refine Z2 ?_ ?_<;>intro h ab<;>try exact Xp)|(refine Z5 ?_;first|(refine Xi (Dt _ _) ?_;rintro _ _ ⟨rfl,rfl⟩)|(refine Xi (Hn l ids w hl _) ?_;rintro _ _ ⟨rfl,rfl⟩))|refine Z7 ?_|exact Zt|(apply J.out;clear J ya))
    ·have hv:Ag w=true:=by assumption
     refine⟨a.terms.length-(k+1),Ad2,k+1,acc++(L9 k++Ou l w),rfl,Ad2,by rw[ad.out,Ou,if_pos hv];simp[Qp],by simp,Xs,by have:=HT.out;have:=af.out;simp only[Abj];omega,by rw[Ad8,aa.out]⟩
    ·have hv:Ag w=false:=by assumption
     refine⟨a.terms.length-(k+1),Ad2,k+1,acc++(L9 k++Ou l w),rfl,Ad2,by rw[ad.out,Ou,if_neg (by rw[hv];simp)];simp,by simp,by have:=HT.out;have:=af.out;simp only[Abj];omega,by rw[Ad8,aa.out]⟩
  ·have an:k=a.terms.length:=Ad2;subst an;rw[Aa3]at hA
   repeat' (first|refine Z1 ?_|(refine Z8 ?_;intro ya J)|(refine Z4 ?_;clear J ya)|(refine Z2 ?_ ?_<;>intro h ab<;>try exact Xp)|refine Z7 ?_|exact Zt|(apply J.out;clear J ya))
   first
   |exact⟨_,rfl,by rw[hA.out];simp[Gy,jS,hnt],hK⟩
   |exact⟨_,rfl,by rw[hA.out];simp[Gy,jS,hnt]⟩
def RItem.short (x:RItem):Prop:=Go.Proofs.YtmoeoppbmhfbpaaGreatDoorH.short x.head/\∀a∈x.body,Go.Proofs.YtmoeoppbmhfbpaaGreatDoorH.short a
theorem mR {ts:List Tx}{t:Tx}(h:t∈ts):t.length<=(Cr ts).length:=by
 induction ts with
 |nil=>cases h
 |cons u ts ih=>
  unfold Cr at*
  simp only[Aca,Abj,Abv];rcases Acd.1 h with rfl|h
  ·omega
  ·have:=ih h;omega
theorem U7 {ts:List Tx}{t:Tx}(h:t∈ts):t.length<=(Cv ts).length:=by
 cases ts with
 |nil=>cases h
 |cons u ts=>
  unfold Cv;simp only[Abj];rcases Acd.1 h with rfl|h
  ·omega
  ·have:=mR h;omega
theorem P0 {a:RAtom}(hw:a.terms.length<=3)(h:(A4 a).length<=1000):short a:=by
 unfold A4 at h;simp only[Abj,Abv]at h;refine⟨Ad2,Ad2,fun t ht=>?_⟩;have:=U7 ht;omega
theorem aC {x:RItem}(hw:Jk x)(h:(Co x).length<=1000):x.short:=by
 obtain⟨-,h2,h3⟩:=hw;unfold Co at h;cases ho:x.out with
 |true=>
  rw[if_pos ho]at h;obtain⟨-,q1,q2⟩:=h2 ho;simp only[Abv]at h;exact⟨⟨Ad2,by simp[q1],by simp[q1]⟩,by simp[q2]⟩
 |false=>
  rw[if_neg (by rw[ho];simp)]at h;obtain⟨q1,-,q2,q3⟩:=h3 ho;unfold D7 at h;simp only[Abj]at h;refine⟨P0 q1.2.2.1 Ad2,fun a ha=>?_⟩;have aa:x.body≠[]:=by intro e;rw[e]at ha;cases ha
  rw[if_neg aa]at h;simp only[Abv]at h;have hm:=U7 (List.mem_map_of_mem (f:=Dg) ha);have hl:(A4 a).length<=(Dg a).length:=by unfold Dg;simp
  exact P0 (q3 a ha).2.2.1 Ad2
theorem fW {l:List RItem}{x:RItem}(h:x∈l):(Co x).length<=(Da l).length:=by
 induction l with
 |nil=>cases h
 |cons y l ih=>
  unfold Da at*
  simp only[Aca,Abj];rcases Acd.1 h with rfl|h
  ·omega
  ·have:=ih h;omega
theorem dA {s:Tx}{l:List RItem}{r:Tx}(hs:s.length<=1000)(h:Bf 16 s= .got l r):∀x∈l,x.short:=by
 obtain⟨h1,-,-,h4⟩:=El _ _ _ _ h;intro x hx;have:=fW hx;rw[<-h1]at this;exact aC (h4 x hx) Ad2
theorem Te {k:Int}(h0:0<=k)(h1:k<26):Qp k=UInt8.ofNat (IntKind.u8.wrap (65+k)).toNat:=by
 unfold Qp;rw[Int.tmod_eq_of_lt h0 h1,i64w Ad2 Ad2]
theorem Hl {x:RItem}{a:RAtom}(h:(x.out=false/\a=x.head)\/a∈x.body):a∈Af x:=by
 unfold Af;rcases h with⟨h,rfl⟩|h
 ·exact Ab2.2 (.inl (by rw[h];simp))
 ·exact Ab2.2 (.inr h)
theorem Pf {k:Int}(h0:0<=k)(h1:k<26):((Qp k).toNat:Int)=65+k:=by
 rw[Te h0 h1,u8w Ad2 Ad2];rw[UInt8.toNat_ofNat_of_lt' (by show (65+k).toNat<256;omega)];omega
theorem oB {k:Int}(h0:0<=k)(h1:k<26):B6 (Qp k).toNat=true:=by
 rw[Pf h0 h1];simp[B6];omega
def H7 (N:List Tx)(cc:Nat->Int)(a:RAtom):Int:=if a.nt=true then cc (N.idxOf a.pred)+1 else cc (N.idxOf a.pred)
def Du (N:List Tx)(cc:Nat->Int)(m:Int)(a:RAtom):Int:=if m<H7 N cc a then H7 N cc a else m
def Cl (N:List Tx)(cc:Nat->Int)(ls:List RAtom):Int:=ls.foldl (Du N cc) 0
theorem dT (N:List Tx)(cc:Nat->Int)(ls:List RAtom)(a:RAtom):Cl N cc (ls++[a])=Du N cc (Cl N cc ls) a:=by simp[Cl]
theorem Mq {N:List Tx}{cc:Nat->Int}{B:Int}(h:∀i,0<=cc i/\cc i<=B)(hB:0<=B)(ls:List RAtom):0<=Cl N cc ls/\Cl N cc ls<=B+1:=by
 have:∀(ls:List RAtom) (m:Int),0<=m->m<=B+1->0<=ls.foldl (Du N cc) m/\ls.foldl (Du N cc) m<=B+1:=by
  intro ls;induction ls with
  |nil=>intro m h1 h2;exact⟨h1,h2⟩
  |cons a ls ih=>
   intro m h1 h2;have hc:=h (N.idxOf a.pred);have ha:0<=H7 N cc a/\H7 N cc a<=B+1:=by unfold H7;split<;>omega
   have:0<=Du N cc m a/\Du N cc m a<=B+1:=by unfold Du;split<;>omega
   exact ih _ this.1 this.2
 exact this ls 0 Ad2 Ad2
theorem N0 (N:List Tx)(x:RItem)(c:List AV)(cc:Nat->Int)(oc:Nat)(hc:PI N x c)(hn:x.body.length<=1000)(af:∀i,0<=cc i/\cc i<=1000000)(D:St)(am:D.obj oc=E8 N.length cc)(aj:oc<D.nobj):
  ACalls Tryz.prog 129 [ag c,fx oc 0 N.length] D fun r D'=>r=sc (.int .i64 (Cl N cc x.body))/\Keep D D':=by
 obtain⟨hm,ih,id,b,hb,rfl⟩:=hc;have ax:=EL.length K8 hb;have aw:=Hy N.length cc;refine Z9 32 [.tmp 4] Tryz.func129 ?_
 repeat' (first|refine Z1 ?_|(refine Z8 ?_;intro ya J)|(refine Z4 ?_;clear J ya)|(refine Z2 ?_ ?_<;>intro h ad<;>try exact Xp)|refine Z3 ?_|exact Zt|(apply J.out;clear J ya))
 refine Ab (fun m s D'=>∃i:Nat,m=x.body.length-i/\i<=x.body.length/\s 1=fx oc 0 N.length/\s 5=sc (.int .i64 (Cl N cc (x.body.take i)))/\s 10=sl id x.body.length b/\s 11=sc (.int .i64 x.body.length)/\s 12=sc (.int .i64 i)/\Keep D D') x.body.length
  ⟨0,Ad2,Ad2,rfl,rfl,rfl,rfl,rfl,Xs⟩ ?_
 rintro m s D' ⟨i,rfl,hi,h1,h5,a0,az,ay,hK⟩;have av:=hK.nobj;have ak:D'.obj oc=E8 N.length cc:=by rw[hK.obj _ aj];exact am
 by_cases an:i<x.body.length
 ·have ab:=Aav an;obtain⟨ha,ia,r,hd⟩:=fJ hb ab;generalize x.body[i]=a at hd ab ha;have ah:=Acw ha;have ai:=E7 cc ah;have au:=af (N.idxOf a.pred);have ae:Ad8 (Cl N cc (x.body.take (i+1))=Du N cc (Cl N cc (x.body.take i)) a):=by
   rw[Ad8,Aa8,ab,Ab9,dT]
  have ac:Ad8 (H7 N cc a=if a.nt=true then cc (N.idxOf a.pred)+1 else cc (N.idxOf a.pred)):=rfl;have ao:=Mq (N:=N) af (by decide) (x.body.take i);clear ab af;generalize cc (N.idxOf a.pred)=ci at ai au ac;generalize N.idxOf a.pred=ix at hd ah ai;generalize Cl N cc (x.body.take i)=lm at h5 ae ao;cases hnt:a.nt with
  |true=>
   rw[hnt]at hd;have aa:Ad8 (H7 N cc a=ci+1):=by rw[Ad8,ac.out,if_pos hnt]
   repeat' (first|refine Z1 ?_|(refine Z8 ?_;intro ya J)|(refine Z4 ?_;clear J ya)|(refine Z2 ?_ ?_<;>intro h ad<;>try exact Xp)|refine Z3 ?_|exact Zt|(apply J.out;clear J ya))
   ·refine⟨x.body.length-(i+1),Ad2,i+1,rfl,Ad2,?_,by simp,(hK.new _).put hK.nobj _⟩;rw[ae.out,Du,aa.out,if_pos (by simpa using h)]
   ·refine⟨x.body.length-(i+1),Ad2,i+1,rfl,Ad2,?_,by simp,(hK.new _).put hK.nobj _⟩;rw[ae.out,Du,aa.out,if_neg (by simpa using h)]
  |false=>
   rw[hnt]at hd;have aa:Ad8 (H7 N cc a=ci):=by rw[Ad8,ac.out,if_neg (by rw[hnt];simp)]
   repeat' (first|refine Z1 ?_|(refine Z8 ?_;intro ya J)|(refine Z4 ?_;clear J ya)|(refine Z2 ?_ ?_<;>intro h ad<;>try exact Xp)|refine Z3 ?_|exact Zt|(apply J.out;clear J ya))
   ·refine⟨x.body.length-(i+1),Ad2,i+1,rfl,Ad2,?_,by simp,(hK.new _).put hK.nobj _⟩;rw[ae.out,Du,aa.out,if_pos (by simpa using h)]
   ·refine⟨x.body.length-(i+1),Ad2,i+1,rfl,Ad2,?_,by simp,(hK.new _).put hK.nobj _⟩;rw[ae.out,Du,aa.out,if_neg (by simpa using h)]
 ·have ap:i=x.body.length:=Ad2;subst ap;rw[Aa3]at h5
  repeat' (first|refine Z1 ?_|(refine Z8 ?_;intro ya J)|(refine Z4 ?_;clear J ya)|(refine Z2 ?_ ?_<;>intro h ad<;>try exact Xp)|refine Z3 ?_|exact Zt|(apply J.out;clear J ya))
  first|exact⟨_,rfl,rfl,hK⟩|exact⟨_,rfl,rfl⟩
def Ei (N:List Tx)(cc:Nat->Int)(x:RItem):Nat->Int:=fun j=>if j=N.idxOf x.head.pred/\cc (N.idxOf x.head.pred)<Cl N cc x.body then Cl N cc x.body else cc j
def xX (N:List Tx)(l:List RItem)(cc:Nat->Int):Nat->Int:=l.foldl (Ei N) cc
def Bv (N:List Tx)(l:List RItem):Nat->Nat->Int
 |0=>fun _=>0
 |k+1=>xX N l (Bv N l k)
def uP (cc:Nat->Int)(B:Int):Prop:=∀i,0<=cc i/\cc i<=B
theorem mZ {N:List Tx}{cc:Nat->Int}{B:Int}(h:uP cc B)(hB:0<=B)(x:RItem):uP (Ei N cc x) (B+1):=by
 intro i;have h1:=h i;have h2:=Mq (N:=N) h hB x.body;unfold Ei;split<;>omega
theorem mY {N:List Tx}{cc:Nat->Int}{x:RItem}(h:cc (N.idxOf x.head.pred)<Cl N cc x.body):(fun j=>if j=N.idxOf x.head.pred then Cl N cc x.body else cc j)=Ei N cc x:=by
 funext j;unfold Ei;by_cases e:j=N.idxOf x.head.pred<;>simp[e,h]
theorem gA {N:List Tx}{cc:Nat->Int}{x:RItem}(h:¬cc (N.idxOf x.head.pred)<Cl N cc x.body):Ei N cc x=cc:=by
 funext j;unfold Ei;rw[if_neg (fun e=>h e.2)]
theorem bS (N:List Tx)(l:List RItem)(cs:List AV)(idn idi:Nat)(hB:Bk N l cs)(D:St):ACalls Tryz.prog 77 [Fa N idn l idi cs] D fun r D'=>∃o,r=fx o 0 N.length/\D'.obj o=E8 N.length (Bv N l l.length)/\D.nobj<=o/\o<D'.nobj/\Keep D D':=by
 have a8:=EL.length Iy hB.el;have a0:=hB.len;have hN:=hB.nm;refine Z9 45 [.tmp 2] Tryz.func77 ?_
 repeat' (first|refine Z1 ?_|(refine Z8 ?_;intro ya J)|(refine Z4 ?_;clear J ya)|(refine Z2 ?_ ?_<;>intro h ac<;>try exact Xp)|refine Z3 ?_|exact Zt|(apply J.out;clear J ya))
 refine Ab (fun m s D'=>∃(r:Nat) (cc:Nat->Int),m=l.length-r/\r<=l.length/\s 1=ptr D.nobj 0/\s 3=fx (D.nobj+1) 0 N.length/\s 4=sc (.int .i64 r)/\Keep D D'/\D.nobj+1<D'.nobj/\D'.obj D.nobj=[sl idn N.length (N.map str),sl idi l.length cs]/\D'.obj (D.nobj+1)=E8 N.length cc/\Ad8 (uP cc (r*16:Nat))/\Ad8 (cc=Bv N l r)) l.length
  ⟨0,fun _=>0,Ad2,Ad2,Ad4,Ad4,rfl,Xs,Ad6,?_,?_,fun i=>by simp,rfl⟩ ?_
 ·rw[Ai (by rw[Aa];omega),Am]
 ·show (if D.nobj+1=D.nobj+1 then _ else _)=_;rw[if_pos rfl];exact Pq _
 rintro m s D' ⟨r,cc,rfl,hr,h1,h3,h4,hK,aa,ad,ae,hG,hC⟩;have am:=hK.nobj;by_cases a7:r<l.length
 ·repeat' (first|refine Z1 ?_|(refine Z8 ?_;intro ya J)|(refine Z4 ?_;clear J ya)|(refine Z2 ?_ ?_<;>intro h ac<;>try exact Xp)|refine Z3 ?_|exact Zt|(apply J.out;clear J ya))
  refine Ab (fun m s D'=>∃(i:Nat) (cc:Nat->Int),m=l.length-i/\i<=l.length/\s 1=ptr D.nobj 0/\s 3=fx (D.nobj+1) 0 N.length/\s 4=sc (.int .i64 r)/\s 20=sl idi l.length cs/\s 21=sc (.int .i64 l.length)/\s 22=sc (.int .i64 i)/\Keep D D'/\D.nobj+1<D'.nobj/\D'.obj D.nobj=[sl idn N.length (N.map str),sl idi l.length cs]/\D'.obj (D.nobj+1)=E8 N.length cc/\Ad8 (uP cc (r*16+i:Nat))/\Ad8 (cc=(l.take i).foldl (Ei N) (Bv N l r))) l.length
   ⟨0,cc,Ad2,Ad2,by simp[upd,h1],by simp[upd,h3],by simp[upd,h4],Ad4,rfl,rfl,hK,aa,ad,ae,by simpa using hG,by simpa using hC⟩ ?_
  clear hK aa ad ae hG hC h1 h3 h4 am cc;rintro m s D' ⟨i,cc,rfl,hi,h1,h3,h4,bb,ba,a9,hK,aa,ad,ae,hG,hC⟩;have am:=hK.nobj;by_cases ah:i<l.length
  ·have ab:=Aav ah;have ao:=hB.fits l[i] (Ab1 ah);obtain⟨hm,ih,id,b,rr,hb,hd⟩:=Lb hB.el ab;generalize l[i]=x at hd ab ao hb hm;have HX:Ad8 (l[i]?=some x):=ab;clear ab;have an:=Acw hm;have ap:=E7 cc an;have a6:=Hy N.length cc;have au:(0:Int)<=((r*16+i:Nat):Int):=Acy _;have az:=Mq (N:=N) hG.out au x.body;have a4:=hG.out (N.idxOf x.head.pred);have hL:=fun (τ:St) (h1:τ.obj (D.nobj+1)=E8 N.length cc) (h2:D.nobj+1<τ.nobj)=>N0 N x _ cc (D.nobj+1) (PI.of (ih:=ih) (id:=id) hm hb) ao.1 (fun j=>by have:=hG.out j;omega) τ h1 h2;have HS:Ad8 (cc (N.idxOf x.head.pred)<Cl N cc x.body->(E8 N.length cc).set (N.idxOf x.head.pred) (sc (.int .i64 (Cl N cc x.body)))=E8 N.length (Ei N cc x)):=fun h=>by rw[Oh,mY h]
   have HN:Ad8 (¬cc (N.idxOf x.head.pred)<Cl N cc x.body->Ei N cc x=cc):=gA;have av:=mZ (N:=N) hG.out au x;have a5:Ad8 _:=av;have aw:Ad8 ((l.take (i+1)).foldl (Ei N) (Bv N l r)=Ei N cc x):=by
    rw[Ad8,Aa8,HX.out,Ab9,Ac1,<-hC.out];rfl
   clear av;generalize Cl N cc x.body=lm at hL HS HN az;generalize cc (N.idxOf x.head.pred)=ci at ap HS HN a4;generalize N.idxOf x.head.pred=ix at hd an ap hL HS
   repeat' (first|refine Z1 ?_|(refine Z8 ?_;intro ya J)|(refine Z4 ?_;clear J ya)|(refine Z2 ?_ ?_<;>intro h ac<;>try exact Xp)|(refine Z5 ?_;refine Xi (hL _ (by rw[Al Ad2,Ai Ad2];exact ae) (by simp only[Ac,Aa];omega)) ?_;rintro _ _ ⟨rfl,ai⟩;(have ax:=ai.obj;have aj:=ai.nobj;(try simp only[Aa,Ac,Av]at aj)))|refine Z3 ?_|exact Zt|(apply J.out;clear J ya))
   ·have ak:=((hK.new [sc (.bool false),sc (.int .i64 0),nilS,nilS]).put hK.nobj _).trans ai;exact⟨l.length-(i+1),Ad2,i+1,Ei N cc x,rfl,Ad2,by simp,ak.put Ad2 _,Ad2,HS.out (by simpa using h),fun j=>by have:=a5.out j;omega,aw.out.symm⟩
   ·have ak:=((hK.new [sc (.bool false),sc (.int .i64 0),nilS,nilS]).put hK.nobj _).trans ai;have af:=HN.out (by simpa using h);exact⟨l.length-(i+1),Ad2,i+1,cc,rfl,Ad2,by simp,ak,Ad2,rfl,fun j=>by have:=hG.out j;omega,by rw[Ad8,aw.out,af]⟩
  ·have a3:i=l.length:=Ad2;subst a3;rw[Aa3]at hC
   repeat' (first|refine Z1 ?_|(refine Z8 ?_;intro ya J)|(refine Z4 ?_;clear J ya)|(refine Z2 ?_ ?_<;>intro h ac<;>try exact Xp)|refine Z3 ?_|exact Zt|(apply J.out;clear J ya))
   refine⟨l.length-(r+1),Ad2,r+1,cc,rfl,Ad2,by simp,rfl,fun j=>?_,hC⟩;have:=hG.out j;omega
 ·have ay:r=l.length:=Ad2;subst ay
  repeat' (first|refine Z1 ?_|(refine Z8 ?_;intro ya J)|(refine Z4 ?_;clear J ya)|(refine Z2 ?_ ?_<;>intro h ac<;>try exact Xp)|refine Z3 ?_|exact Zt|(apply J.out;clear J ya))
  first
  |exact⟨_,rfl,D.nobj+1,rfl,by rw[ae,hC.out],Ad2,aa,hK⟩
  |exact⟨_,rfl,D.nobj+1,rfl,by rw[ae,hC.out],Ad2,aa⟩
end Go.Proofs.YtmoeoppbmhfbpaaGreatDoorH
