import Derived.Shelf.Strconv.Itoa3
import Derived.Test.YtmoeoppbmhfbpaaGreatDoorProg
import Derived.Test.YtmoeoppbmhfbpaaGreatDoorDAbsWp
import Derived.Test.YtmoeoppbmhfbpaaGreatDoorDProgM
import Derived.Test.YtmoeoppbmhfbpaaGreatDoorDLawA
set_option maxHeartbeats 16000000
set_option maxRecDepth 100000
set_option linter.all false
namespace Go.Proofs
open Go.Shelf
def Tryz.laysM171_ren:Go.Shelf.Ren:=⟨fun|171=>69|243=>119|246=>162|283=>200|284=>201|285=>202|286=>203|129=>238|317=>237|318=>239|319=>240|320=>241|337=>265|338=>266|n=>n,fun|3=>3|9=>9|2=>2|4=>4|171=>246|0=>0|53=>247|37=>204|5=>5|173=>250|212=>283|51=>284|20=>20|213=>285|46=>286|232=>303|233=>304|n=>n,fun|17=>0|18=>1|19=>2|n=>n⟩
theorem Tryz.laysM171:Go.Proofs.LaysM.n171 Tryz.prog Tryz.laysM171_ren:={
 mixed:=by kernel_rfl
 f129:=Tryz.func238.trans (congrArg some (by kernel_rfl))
 f171:=Tryz.func69.trans (congrArg some (by kernel_rfl))
 f243:=Tryz.func119.trans (congrArg some (by kernel_rfl))
 f246:=Tryz.func162.trans (congrArg some (by kernel_rfl))
 f283:=Tryz.func200.trans (congrArg some (by kernel_rfl))
 f284:=Tryz.func201.trans (congrArg some (by kernel_rfl))
 f285:=Tryz.func202.trans (congrArg some (by kernel_rfl))
 f286:=Tryz.func203.trans (congrArg some (by kernel_rfl))
 f317:=Tryz.func237.trans (congrArg some (by kernel_rfl))
 f318:=Tryz.func239.trans (congrArg some (by kernel_rfl))
 f319:=Tryz.func240.trans (congrArg some (by kernel_rfl))
 f320:=Tryz.func241.trans (congrArg some (by kernel_rfl))
 f337:=Tryz.func265.trans (congrArg some (by kernel_rfl))
 f338:=Tryz.func266.trans (congrArg some (by kernel_rfl))
 t0:=Tryz.underlying0
 a0:=Tryz.isAgg0
 z0:=Tryz.sizeOf0
 v0:=Tryz.zeroValue0
 t2:=Tryz.underlying2
 a2:=Tryz.isAgg2
 z2:=Tryz.sizeOf2
 v2:=Tryz.zeroValue2
 t3:=Tryz.underlying3
 a3:=Tryz.isAgg3
 z3:=Tryz.sizeOf3
 v3:=Tryz.zeroValue3
 t4:=Tryz.underlying4
 a4:=Tryz.isAgg4
 z4:=Tryz.sizeOf4
 v4:=Tryz.zeroValue4
 t5:=Tryz.underlying5
 a5:=Tryz.isAgg5
 z5:=Tryz.sizeOf5
 v5:=Tryz.zeroValue5
 t9:=Tryz.underlying9
 a9:=Tryz.isAgg9
 z9:=Tryz.sizeOf9
 v9:=Tryz.zeroValue9
 t20:=Tryz.underlying20
 a20:=Tryz.isAgg20
 z20:=Tryz.sizeOf20
 v20:=Tryz.zeroValue20
 t37:=Tryz.underlying204
 a37:=Tryz.isAgg204
 z37:=Tryz.sizeOf204
 v37:=Tryz.zeroValue204
 t46:=Tryz.underlying286
 a46:=Tryz.isAgg286
 z46:=Tryz.sizeOf286
 v46:=Tryz.zeroValue286
 t51:=Tryz.underlying284
 a51:=Tryz.isAgg284
 z51:=Tryz.sizeOf284
 v51:=Tryz.zeroValue284
 t53:=Tryz.underlying247
 a53:=Tryz.isAgg247
 z53:=Tryz.sizeOf247
 v53:=Tryz.zeroValue247
 t171:=Tryz.underlying246
 a171:=Tryz.isAgg246
 z171:=Tryz.sizeOf246
 v171:=Tryz.zeroValue246
 t173:=Tryz.underlying250
 a173:=Tryz.isAgg250
 z173:=Tryz.sizeOf250
 v173:=Tryz.zeroValue250
 t212:=Tryz.underlying283
 a212:=Tryz.isAgg283
 z212:=Tryz.sizeOf283
 v212:=Tryz.zeroValue283
 t213:=Tryz.underlying285
 a213:=Tryz.isAgg285
 z213:=Tryz.sizeOf285
 t232:=Tryz.underlying303
 a232:=Tryz.isAgg303
 z232:=Tryz.sizeOf303
 v232:=Tryz.zeroValue303
 t233:=Tryz.underlying304
 a233:=Tryz.isAgg304
 z233:=Tryz.sizeOf304
 v233:=Tryz.zeroValue304
 g17:=by kernel_rfl
 g18:=by kernel_rfl
 g19:=by kernel_rfl
 i0:=by kernel_rfl
 i2:=by kernel_rfl
 i3:=by kernel_rfl
 i4:=by kernel_rfl
 i5:=by kernel_rfl
 i9:=by kernel_rfl
 i20:=by kernel_rfl
 i37:=by kernel_rfl
 i46:=by kernel_rfl
 i51:=by kernel_rfl
 i53:=by kernel_rfl
 i171:=by kernel_rfl
 i173:=by kernel_rfl
 i212:=by kernel_rfl
 i232:=by kernel_rfl
 i233:=by kernel_rfl
 m17:=by kernel_rfl
 m18:=by kernel_rfl
 m19:=by kernel_rfl}
end Go.Proofs
namespace Go.Proofs.YtmoeoppbmhfbpaaGreatDoorD
open Go.Abs Go.Sort
open Go.RowKit (Below)
theorem Lr (w:World)(k:Nat)(os:Array Obj){b:Nat}(h:b<w.heap.size):(grow (w.drewN k) os).heap[b]?=w.heap[b]?:=by
 show (w.heap++os)[b]?=w.heap[b]?;exact Array.getElem?_append_left h
theorem sF (w:World)(k:Nat)(os:Array Obj){b o:Nat}(h:b<w.heap.size):(grow (w.drewN k) os).cell? ⟨b,o,none⟩=w.cell? ⟨b,o,none⟩:=by
 unfold World.cell?;rw[Lr w k os h]
theorem sC {G:Gh}{σ:St}{w:World}(I:Abs.Inv G σ w)(k:Nat)(os:Array Obj):Abs.Inv G σ (grow (w.drewN k) os)/\Ext G σ w G σ (grow (w.drewN k) os):=by
 have E:Ext G σ w G σ (grow (w.drewN k) os):=⟨rfl,rfl,Adc _,fun _ _=>rfl,Adc _,fun _ _=>⟨Adc _,rfl,fun _=>⟨rfl,rfl⟩⟩,fun b off p=>⟨p,sF w k os (I.perlt _ _ p)⟩,fun o h=>⟨Adc _,fun _=>Lr w k os (I.blk_lt h)⟩⟩;have aa:w.heap.size<=(grow (w.drewN k) os).heap.size:=by
  show w.heap.size<=(w.heap++os).size;rw[Array.size_append];omega
 refine⟨⟨fun p hp=>?_,I.inj,fun k hk=>?_,I.linj,I.apart,fun b off p=>Adf (I.perlt _ _ p) aa,I.perlo,?_,Ade I.le aa,I.hyp⟩,E⟩
 ·obtain⟨h1,h2,h3⟩:=I.obj p hp;refine⟨h1,Adf h2 aa,fun ab=>?_⟩;obtain⟨⟨arr,e,hb,ha⟩,h4⟩:=h3 ab;exact⟨⟨arr,e,by rw[Lr _ _ _ (I.blk_lt hp)];exact hb,VR.all E ha⟩,h4⟩
 ·obtain⟨h1,⟨arr,e,hb,ha⟩,h3⟩:=I.lin k hk;exact⟨h1,⟨arr,e,by rw[Lr _ _ _ (I.cur_lt hk)];exact hb,ha⟩,h3⟩
 ·have hb:=I.below;have hl:=I.le;exact⟨hb.os,hb.tape,hb.output,Ade hb.size aa,fun j hj=>by rw[Lr _ _ _ Agm];exact hb.block j hj⟩
theorem Zo (n:Int)(h0:0<=n)(h1:n<=9999)(σ:St):ACalls Tryz.prog 69 [sc (.int .i64 n)] σ fun x σ'=>x=str (Lib.itoa n)/\σ'=σ:=by
 refine⟨Agp,fun G w cargs I A=>?_⟩;obtain⟨v,rfl⟩:∃v,cargs=#[v]:=by
  have hl:=A.1
  match cargs,hl with
  |⟨[v]⟩,_=>exact⟨v,rfl⟩
 have hv:v= .int .i64 n:=(A.2 0 v _ rfl rfl).unfold;subst hv;refine (Any.strconv_Itoa Tryz.laysM171 n Agm Agm w (I.hyp w I.below)).mono ?_;rintro e w' ⟨rfl,k,os,rfl⟩;obtain⟨I',E⟩:=sC I k os;exact⟨_,G,_,σ,rfl,I',E,VR.sc _,rfl,rfl⟩
open Go.Abs
def DT (w:Tx):Prop:=Ab w=true\/(Ab w=false/\Lib.itoa (Ap w).2=w/\0<=(Ap w).2/\(Ap w).2<=999)
theorem dP {b:UInt8}{m:Nat}(h:b.toNat=m):UInt8.ofNat m=b:=by rw[<-h];exact UInt8.ofNat_toNat
theorem Vn {v d:Nat}(hv:1<=v)(hd:d<=9):Lib.decDigits (v*10+d)=Lib.decDigits v++[UInt8.ofNat (48+d)]:=by
 rw[Lib.decDigits,dif_neg Agm,show (v*10+d) / 10=v by omega,show (v*10+d) % 10=d by omega]
theorem cI {w:Tx}{m:Nat}(hv:Ab w=false)(hw:w≠[])(hn:Hn w=(m:Int))(hm:m<=999)(hd:Lib.decDigits m=w):DT w:=by
 cases w with
 |nil=>exact absurd rfl hw
 |cons b r=>
  refine .inr ⟨hv,?_⟩;rw[Po hv];dsimp only;rw[hn];exact⟨by rw[Lib.itoa_nonneg,hd],Agm,Agm⟩
theorem gR (s w r:Tx)(h:Cp s= .got w r):DT w:=by
 cases s with
 |nil=>cases h
 |cons b q=>
  unfold Cp at h;dsimp only at h;split at h
  ·rename_i hl;cases h;exact .inl hl
  rename_i hl;have hl:Bo b.toNat=false:=by simpa using hl
  split at h
  ·rename_i h0;cases h;have ad:b.toNat=48:=by
    have:(b.toNat:Int)=48:=by simpa using h0
    omega
   exact cI (m:=0) hl (by simp) (by simp[Hn,ad]) Agm (by rw[Lib.decDigits_one Agm,dP ad])
  split at h
  ·rename_i h9;cases h;have hb:49<=b.toNat/\b.toNat<=57:=by simp[F7]at h9;omega
   have aa:=(D4 A1 2 q).2;have ac:(Av A1 2 q).1.length<=2:=by
    cases q with
    |nil=>simp[Av]
    |cons c q=>
     unfold Av;split
     ·cases q with
      |nil=>simp[Av]
      |cons d q=>unfold Av;split<;>simp[Av]
     ·simp
   have ab:∀c:UInt8,A1 c.toNat=true->48<=c.toNat/\c.toNat<=57:=fun c hc=>by simp[A1]at hc;omega
   have d1:Lib.decDigits (b.toNat-48)=[b]:=by rw[Lib.decDigits_one Agm,dP (show b.toNat=48+(b.toNat-48)by omega)]
   generalize (Av A1 2 q).1=ds at aa ac
   match ds,aa,ac with
   |[],_,_=>exact cI (m:=b.toNat-48) hl (by simp) (by simp[Hn];omega) Agm d1
   |[c],aa,_=>
    have hc:=ab c (aa c (by simp));have d2:Lib.decDigits ((b.toNat-48)*10+(c.toNat-48))=[b,c]:=by rw[Vn Agm Agm,d1,dP (show c.toNat=48+(c.toNat-48)by omega)];rfl
    exact cI (m:=(b.toNat-48)*10+(c.toNat-48)) hl (by simp) (by simp[Hn];omega) Agm d2
   |[c,d],aa,_=>
    have hc:=ab c (aa c (by simp));have hd:=ab d (aa d (by simp));have d2:Lib.decDigits ((b.toNat-48)*10+(c.toNat-48))=[b,c]:=by rw[Vn Agm Agm,d1,dP (show c.toNat=48+(c.toNat-48)by omega)];rfl
    have d3:Lib.decDigits (((b.toNat-48)*10+(c.toNat-48))*10+(d.toNat-48))=[b,c,d]:=by rw[Vn Agm Agm,d2,dP (show d.toNat=48+(d.toNat-48)by omega)];rfl
    exact cI (m:=((b.toNat-48)*10+(c.toNat-48))*10+(d.toNat-48)) hl (by simp) (by simp[Hn];omega) Agm d3
  ·cases h
def Bt (l:List Tx)(s:Tx):Int:=if s∈l then ((l.idxOf s:Nat):Int)else -1
theorem Hz (l:List Tx)(ids:Nat)(n:Tx)(hl:l.length<=10000000)(σ:St):ACalls Tryz.prog 91 [sl ids l.length (l.map str),str n] σ fun x σ'=>x=sc (.int .i64 (Bt l n))/\σ'=σ:=by
 refine Z9 19 [.tmp 4] Tryz.func91 ?_
 refine zx ?_
 refine Ad (fun m s' σ'=>∃i:Nat,m=l.length-i/\i<=l.length/\s' 0=sl ids l.length (l.map str)/\s' 1=str n/\s' 5=sc (.int .i64 i)/\σ'=σ/\Agt (∀a,a<i->l[a]?≠some n)) l.length
  ⟨0,Agm,Agm,rfl,rfl,rfl,rfl,fun a ha=>Agm⟩ ?_
 rintro m s' σ' ⟨i,rfl,hi,h0,h1,h5,hσ,aa⟩;subst hσ;by_cases ad:i<l.length
 ·have ae:=A2 ad;have HX:Agt (l[i]?=some l[i]):=Adn ad;generalize l[i]=w at ae HX
  repeat' first|refine Z1 ?_|refine Z8 fun ya J=>?_|refine Z4 ?_;clear J ya|refine Z2 ?_ ?_<;>intro h ac<;>try exact Xp|refine Z7 ?_|exact Zt|apply J.out;clear J ya
  ·have hw:w=n:=by simpa using h
   subst hw;have ab:w∈l:=Adp HX.out;exact⟨_,rfl,by rw[Bt,if_pos ab,Mi aa.out HX.out]⟩
  ·have hw:w≠n:=by simpa using h
   refine⟨l.length-(i+1),Agm,i+1,rfl,Agm,by simp,?_⟩;intro a ha;by_cases ai:a=i
   ·subst ai;rw[HX.out];simpa using hw
   ·exact aa.out a Agm
 ·have ah:i=l.length:=Agm;subst ah;have af:=N0 aa.out
  repeat' first|refine Z1 ?_|refine Z8 fun ya J=>?_|refine Z4 ?_;clear J ya|refine Z2 ?_ ?_<;>intro h ac<;>try exact Xp|refine Z7 ?_|exact Zt|apply J.out;clear J ya
  exact⟨_,rfl,by rw[Bt,if_neg af]⟩
def Fp (acc:List Tx)(t:Tx):List Tx:=if Ab t=true/\t∉acc then acc++[t]else acc
def Gi (acc:List Tx)(ts:List Tx):List Tx:=ts.foldl Fp acc
def Au (x:RItem):List Tx:=Gi [] ((Ae x).flatMap (·.terms))
theorem Ut (ts:List Tx):∀acc,(Gi acc ts).length<=acc.length+ts.length:=by
 induction ts with
 |nil=>intro acc;simp[Gi]
 |cons t ts ih=>
  intro acc;have:=ih (Fp acc t);have h2:(Fp acc t).length<=acc.length+1:=by unfold Fp;split<;>simp
  simp only[Gi,Adt,Aem]at*
  omega
theorem Zf (acc ts:List Tx)(t:Tx):Gi acc (ts++[t])=Fp (Gi acc ts) t:=by simp[Gi]
theorem bK (x:RItem)(c:List AV)(hc:EItem x c)(hx:x.fits)(σ:St):ACalls Tryz.prog 94 [ag c] σ fun r σ'=>∃id,r=sl id (Au x).length ((Au x).map str)/\Keep σ σ':=by
 have hA:=Oi x c hc (by have:=hx.1;omega);obtain⟨ih,id,b,hb,rfl⟩:=hc.cells;have a5:=hx.atoms;have ay:∀a∈Ae x,a.terms.length<=1000:=by
  intro a ha;unfold Ae at ha;rcases Aet.1 ha with h|h
  ·split at h
   ·cases h
   ·simp at h;subst h;exact hx.2.1
  ·exact hx.2.2 a h
 refine Z9 47 [.tmp 2] Tryz.func94 ?_
 repeat' first|refine Z1 ?_|refine Z8 fun ya J=>?_|refine Z4 ?_;clear J ya|refine Z5 ?_;refine Xi (hA _) ?_;rintro _ _ ⟨ida,cs,rfl,hE,ak⟩;(have ad:=ak.nobj;(try simp only[Aa,Ac,Ax]at ad))|refine Z7 ?_|exact Zt|apply J.out;clear J ya
 rename_i σ1;have a4:=EL.length Bc hE;have aj:Keep σ σ1:=Xs;clear ak
 refine Ad (fun m s σ'=>∃(j i3:Nat) (l:List Tx),m=(Ae x).length-j/\j<=(Ae x).length/\s 3=sl i3 l.length (l.map str)/\s 4=sl ida (Ae x).length cs/\s 5=sc (.int .i64 j)/\Keep σ σ'/\Own σ σ' i3 l.length/\l.length<=j*1000/\Agt (l=Gi [] (((Ae x).take j).flatMap (·.terms)))) (Ae x).length
  ⟨0,1,[],Agm,Agm,rfl,rfl,rfl,aj,Own.nil _ _,by simp,by simp[Agt,Gi]⟩ ?_
 clear aj ad;rintro m s σ' ⟨j,i3,l,rfl,hj,h3,h4,h5,hK,hO,ai,hL⟩;by_cases ah:j<(Ae x).length
 ·have ac:=Adn ah;have ap:=ay (Ae x)[j] (Aes ah);obtain⟨ia,r,hd⟩:=Cm hE ac;generalize (Ae x)[j]=a at hd ac ap;have HG:Agt ((Ae x)[j]?=some a):=ac;clear ac
  repeat' first|refine Z1 ?_|refine Z8 fun ya J=>?_|refine Z4 ?_;clear J ya|refine Z2 ?_ ?_<;>intro h ab<;>try exact Xp|refine Z7 ?_|exact Zt|apply J.out;clear J ya
  refine Ad (fun m s σ'=>∃(k i3:Nat) (l:List Tx),m=a.terms.length-k/\k<=a.terms.length/\s 3=sl i3 l.length (l.map str)/\s 4=sl ida (Ae x).length cs/\s 5=sc (.int .i64 j)/\s 6=sc (.int .i64 k)/\Keep σ σ'/\Own σ σ' i3 l.length/\l.length<=j*1000+k/\Agt (l=Gi [] (((Ae x).take j).flatMap (·.terms)++a.terms.take k))) a.terms.length
   ⟨0,i3,l,Agm,Agm,by simp[upd,h3],by simp[upd,h4],by simp[upd,h5],rfl,hK,hO,Agm,by simpa using hL⟩ ?_
  clear hK hO hL ai h3 h4 h5 l;rintro m s σ' ⟨k,i3,l,rfl,hk,h3,h4,h5,h6,hK,hO,ai,hL⟩;by_cases ae:k<a.terms.length
  ·have ao:=A2 ae;have HX:Agt (a.terms[k]?=some a.terms[k]):=Adn ae;generalize a.terms[k]=w at ao HX;have aa:Agt (Gi [] (((Ae x).take j).flatMap (·.terms)++a.terms.take (k+1))=Fp l w):=by
    rw[Agt,Ad0,HX.out,Aez,<-Aed,Zf,<-hL.out]
   repeat' first|refine Z1 ?_|refine Z8 fun ya J=>?_|refine Z4 ?_;clear J ya|refine Z2 ?_ ?_<;>intro h ab<;>try exact Xp|refine Z6 ?_;intro idn σn az a6 a3 an a0 am|(refine Z5 ?_;first|(refine Xi (Co _ _) ?_;rintro _ _ ⟨rfl,rfl⟩)|(refine Xi (Hz l i3 w Agm _) ?_;rintro _ _ ⟨rfl,rfl⟩))|refine Z7 ?_|exact Zt|apply J.out;clear J ya
   ·have au:w∉l:=fun hm=>by
     rw[Bt,if_pos hm]at ab;omega
    have af:Ab w=true:=by assumption
    refine⟨a.terms.length-(k+1),Agm,k+1,idn,l++[w],rfl,Agm,by simp,by simp,by simpa using az,by simp;omega,?_⟩;rw[Agt,aa.out,Fp,if_pos ⟨af,au⟩]
   ·have ax:w∈l:=by
     by_cases hm:w∈l
     ·exact hm
     ·rw[Bt,if_neg hm]at ab;omega
    refine⟨a.terms.length-(k+1),Agm,k+1,i3,l,rfl,Agm,rfl,by simp,hO,Agm,?_⟩;rw[Agt,aa.out,Fp,if_neg (fun h=>h.2 ax)]
   ·have af:Ab w=false:=by assumption
    refine⟨a.terms.length-(k+1),Agm,k+1,i3,l,rfl,Agm,rfl,by simp,hO,Agm,?_⟩;rw[Agt,aa.out,Fp,if_neg (fun h=>by rw[af]at h;cases h.1)]
  ·have av:k=a.terms.length:=Agm;subst av;rw[Adu]at hL
   repeat' first|refine Z1 ?_|refine Z8 fun ya J=>?_|refine Z4 ?_;clear J ya|refine Z2 ?_ ?_<;>intro h ab<;>try exact Xp|refine Z7 ?_|exact Zt|apply J.out;clear J ya
   exact⟨(Ae x).length-(j+1),Agm,j+1,i3,l,rfl,Agm,rfl,by simp,hO,Agm,by rw[Agt,Ad0,HG.out];simpa using hL.out⟩
 ·have aw:j=(Ae x).length:=Agm;subst aw;rw[Adu]at hL
  repeat' first|refine Z1 ?_|refine Z8 fun ya J=>?_|refine Z4 ?_;clear J ya|refine Z2 ?_ ?_<;>intro h ab<;>try exact Xp|refine Z7 ?_|exact Zt|apply J.out;clear J ya
  rw[Au,<-hL.out]
  first|exact⟨_,rfl,i3,rfl,hK⟩|exact⟨_,rfl,i3,rfl⟩
def Kk (k:Int):UInt8:=UInt8.ofNat (IntKind.u8.wrap (IntKind.i64.wrap (65+Int.tmod k 26))).toNat
def Da (l:List Tx)(t:Tx):Tx:=if Ab t=true then [Kk (Bt l t)]else t
def Mz (k:Nat):Tx:=if k=0 then [40]else [44]
def Hb (l:List Tx):Nat->List Tx->Tx
 |_,[]=>[]
 |k,t::ts=>Mz k++Da l t++Hb l (k+1) ts
theorem L3 (l:List Tx):∀(ts:List Tx) (k:Nat) (t:Tx),Hb l k (ts++[t])=Hb l k ts++(Mz (k+ts.length)++Da l t)
 |[],k,t=>by simp[Hb]
 |u::ts,k,t=>by
  rw[Ae6,Hb,L3 l ts (k+1) t,Hb];simp only[Aed,Aem];rw[show k+1+ts.length=k+(ts.length+1)by omega]
def Dv (l:List Tx)(a:RAtom):Tx:=(if a.nt=true then [33]else [])++a.pred++Hb l 0 a.terms++[41]
def short (a:RAtom):Prop:=a.pred.length<=1000/\a.terms.length<=1000/\∀t∈a.terms,t.length<=1000
theorem Rx (l:List Tx)(t:Tx)(h:t.length<=1000):(Da l t).length<=1000:=by unfold Da;split<;>simp[h]
theorem Si (l:List Tx):∀(ts:List Tx) (k:Nat),(∀t∈ts,t.length<=1000)->(Hb l k ts).length<=ts.length*1001
 |[],k,h=>by simp[Hb]
 |t::ts,k,h=>by
  have h1:=Rx l t (h t (by simp));have h2:=Si l ts (k+1) fun u hu=>h u (by simp[hu]);have h3:(Mz k).length=1:=by unfold Mz;split<;>rfl
  simp only[Hb,Aeb,Aem];omega
def nI (a:RAtom):Tx:=(if a.nt=true then [33]else [])++a.pred
theorem Se (l:List Tx)(ids:Nat)(a:RAtom)(c:List AV)(hc:B6 a c)(hl:l.length<=10000000)(hs:short a)(σ:St):ACalls Tryz.prog 143 [ag c,sl ids l.length (l.map str)] σ fun r σ'=>r=str (Dv l a)/\Keep σ σ':=by
 obtain⟨ia,rfl⟩:=hc;obtain⟨a3,a0,ap⟩:=hs;have a4:({data:=#[33]}:ByteArray)=bs [33]:=rfl;refine Z9 47 [.tmp 4] Tryz.func143 ?_;cases hnt:a.nt with
 |true=>
  repeat' first|refine Z1 ?_|refine Z8 fun ya J=>?_|refine Z4 ?_;clear J ya|refine Z2 ?_ ?_<;>intro h ab<;>try exact Xp|refine Z7 ?_|exact Zt|apply J.out;clear J ya
  refine Ad (fun m s σ'=>∃(k:Nat) (acc:Tx),m=a.terms.length-k/\k<=a.terms.length/\s 1=sl ids l.length (l.map str)/\s 2=ptr σ.nobj 0/\s 5=str acc/\s 6=sc (.int .i64 k)/\Keep σ σ'/\σ'.obj σ.nobj=[sc (.bool a.nt),str a.pred,sl ia a.terms.length (a.terms.map str)]/\σ.nobj<σ'.nobj/\acc.length<=1001+k*1001/\Agt (acc=nI a++Hb l 0 (a.terms.take k))) a.terms.length
   ⟨0,nI a,Agm,Agm,rfl,rfl,by simp[upd,nI,hnt],rfl,Xs,by rw[hnt];exact Al,by simp[Aa],by simp[nI,hnt];omega,by simp[Agt,Hb]⟩ ?_
  rintro m s σ' ⟨k,acc,rfl,hk,h1,h2,h5,h6,hK,au,av,aw,hA⟩;have az:({data:=#[40]}:ByteArray)=bs [40]:=rfl;have ax:({data:=#[44]}:ByteArray)=bs [44]:=rfl;have ay:({data:=#[41]}:ByteArray)=bs [41]:=rfl;have am:∀z:UInt8,({data:=#[z]}:ByteArray)=bs [z]:=fun _=>rfl;by_cases ah:k<a.terms.length
  ·have ak:=A2 ah;have HX:Agt (a.terms[k]?=some a.terms[k]):=Adn ah;have ai:=ap a.terms[k] (Aes ah);generalize a.terms[k]=w at ak HX ai;have aa:Agt (nI a++Hb l 0 (a.terms.take (k+1))=acc++(Mz k++Da l w)):=by
    rw[Agt,Ad0,HX.out,Aez,L3,hA.out,Aec,Aeh Agm,Aea,Aed]
   have aj:(Da l w).length<=1000:=Rx l w ai;have ac:(Mz k).length=1:=by unfold Mz;split<;>rfl
   have HT:Agt ((Da l w).length<=1000):=aj;have af:Agt ((Mz k).length=1):=ac;clear aj ac;by_cases ae:k=0
   ·have ao:((k:Int)==0)=true:=by simp[ae]
    have ad:Agt (Mz k=[40]):=by simp[Agt,Mz,ae]
    clear ae
    repeat' first|refine Z1 ?_|refine Z8 fun ya J=>?_|refine Z4 ?_;clear J ya|refine Z2 ?_ ?_<;>intro h ab<;>try exact Xp|(refine Z5 ?_;first|(refine Xi (Co _ _) ?_;rintro _ _ ⟨rfl,rfl⟩)|(refine Xi (Hz l ids w hl _) ?_;rintro _ _ ⟨rfl,rfl⟩))|refine Z7 ?_|exact Zt|apply J.out;clear J ya
    ·have hv:Ab w=true:=by assumption
     refine⟨a.terms.length-(k+1),Agm,k+1,acc++(Mz k++Da l w),rfl,Agm,by rw[ad.out,Da,if_pos hv];simp[Kk],by simp,Xs,by have:=HT.out;have:=af.out;simp only[Aeb];omega,by rw[Agt,aa.out]⟩
    ·have hv:Ab w=false:=by assumption
     refine⟨a.terms.length-(k+1),Agm,k+1,acc++(Mz k++Da l w),rfl,Agm,by rw[ad.out,Da,if_neg (by rw[hv];simp)];simp,by simp,by have:=HT.out;have:=af.out;simp only[Aeb];omega,by rw[Agt,aa.out]⟩
   ·have ao:((k:Int)==0)=false:=by simp;omega
    have ad:Agt (Mz k=[44]):=by simp[Agt,Mz,ae]
    clear ae
    repeat' first|refine Z1 ?_|refine Z8 fun ya J=>?_|refine Z4 ?_;clear J ya|refine Z2 ?_ ?_<;>intro h ab<;>try exact Xp|(refine Z5 ?_;first|(refine Xi (Co _ _) ?_;rintro _ _ ⟨rfl,rfl⟩)|(refine Xi (Hz l ids w hl _) ?_;rintro _ _ ⟨rfl,rfl⟩))|refine Z7 ?_|exact Zt|apply J.out;clear J ya
    ·have hv:Ab w=true:=by assumption
     refine⟨a.terms.length-(k+1),Agm,k+1,acc++(Mz k++Da l w),rfl,Agm,by rw[ad.out,Da,if_pos hv];simp[Kk],by simp,Xs,by have:=HT.out;have:=af.out;simp only[Aeb];omega,by rw[Agt,aa.out]⟩
    ·have hv:Ab w=false:=by assumption
     refine⟨a.terms.length-(k+1),Agm,k+1,acc++(Mz k++Da l w),rfl,Agm,by rw[ad.out,Da,if_neg (by rw[hv];simp)];simp,by simp,by have:=HT.out;have:=af.out;simp only[Aeb];omega,by rw[Agt,aa.out]⟩
  ·have an:k=a.terms.length:=Agm;subst an;rw[Adu]at hA
   repeat' first|refine Z1 ?_|refine Z8 fun ya J=>?_|refine Z4 ?_;clear J ya|refine Z2 ?_ ?_<;>intro h ab<;>try exact Xp|refine Z7 ?_|exact Zt|apply J.out;clear J ya
   first
   |exact⟨_,rfl,by rw[hA.out];simp[Dv,nI,hnt],hK⟩
   |exact⟨_,rfl,by rw[hA.out];simp[Dv,nI,hnt]⟩
 |false=>
  repeat' first|refine Z1 ?_|refine Z8 fun ya J=>?_|refine Z4 ?_;clear J ya|refine Z2 ?_ ?_<;>intro h ab<;>try exact Xp|refine Z7 ?_|exact Zt|apply J.out;clear J ya
  refine Ad (fun m s σ'=>∃(k:Nat) (acc:Tx),m=a.terms.length-k/\k<=a.terms.length/\s 1=sl ids l.length (l.map str)/\s 2=ptr σ.nobj 0/\s 5=str acc/\s 6=sc (.int .i64 k)/\Keep σ σ'/\σ'.obj σ.nobj=[sc (.bool a.nt),str a.pred,sl ia a.terms.length (a.terms.map str)]/\σ.nobj<σ'.nobj/\acc.length<=1001+k*1001/\Agt (acc=nI a++Hb l 0 (a.terms.take k))) a.terms.length
   ⟨0,nI a,Agm,Agm,rfl,rfl,by simp[upd,nI,hnt],rfl,Xs,by rw[hnt];exact Al,by simp[Aa],by simp[nI,hnt];omega,by simp[Agt,Hb]⟩ ?_
  rintro m s σ' ⟨k,acc,rfl,hk,h1,h2,h5,h6,hK,au,av,aw,hA⟩;have az:({data:=#[40]}:ByteArray)=bs [40]:=rfl;have ax:({data:=#[44]}:ByteArray)=bs [44]:=rfl;have ay:({data:=#[41]}:ByteArray)=bs [41]:=rfl;have am:∀z:UInt8,({data:=#[z]}:ByteArray)=bs [z]:=fun _=>rfl;by_cases ah:k<a.terms.length
  ·have ak:=A2 ah;have HX:Agt (a.terms[k]?=some a.terms[k]):=Adn ah;have ai:=ap a.terms[k] (Aes ah);generalize a.terms[k]=w at ak HX ai;have aa:Agt (nI a++Hb l 0 (a.terms.take (k+1))=acc++(Mz k++Da l w)):=by
    rw[Agt,Ad0,HX.out,Aez,L3,hA.out,Aec,Aeh Agm,Aea,Aed]
   have aj:(Da l w).length<=1000:=Rx l w ai;have ac:(Mz k).length=1:=by unfold Mz;split<;>rfl
   have HT:Agt ((Da l w).length<=1000):=aj;have af:Agt ((Mz k).length=1):=ac;clear aj ac;by_cases ae:k=0
   ·have ao:((k:Int)==0)=true:=by simp[ae]
    have ad:Agt (Mz k=[40]):=by simp[Agt,Mz,ae]
    clear ae
    repeat' first|refine Z1 ?_|refine Z8 fun ya J=>?_|refine Z4 ?_;clear J ya|refine Z2 ?_ ?_<;>intro h ab<;>try exact Xp|(refine Z5 ?_;first|(refine Xi (Co _ _) ?_;rintro _ _ ⟨rfl,rfl⟩)|(refine Xi (Hz l ids w hl _) ?_;rintro _ _ ⟨rfl,rfl⟩))|refine Z7 ?_|exact Zt|apply J.out;clear J ya
    ·have hv:Ab w=true:=by assumption
     refine⟨a.terms.length-(k+1),Agm,k+1,acc++(Mz k++Da l w),rfl,Agm,by rw[ad.out,Da,if_pos hv];simp[Kk],by simp,Xs,by have:=HT.out;have:=af.out;simp only[Aeb];omega,by rw[Agt,aa.out]⟩
    ·have hv:Ab w=false:=by assumption
     refine⟨a.terms.length-(k+1),Agm,k+1,acc++(Mz k++Da l w),rfl,Agm,by rw[ad.out,Da,if_neg (by rw[hv];simp)];simp,by simp,by have:=HT.out;have:=af.out;simp only[Aeb];omega,by rw[Agt,aa.out]⟩
   ·have ao:((k:Int)==0)=false:=by simp;omega
    have ad:Agt (Mz k=[44]):=by simp[Agt,Mz,ae]
    clear ae
    repeat' first|refine Z1 ?_|refine Z8 fun ya J=>?_|refine Z4 ?_;clear J ya|refine Z2 ?_ ?_<;>intro h ab<;>try exact Xp|(refine Z5 ?_;first|(refine Xi (Co _ _) ?_;rintro _ _ ⟨rfl,rfl⟩)|(refine Xi (Hz l ids w hl _) ?_;rintro _ _ ⟨rfl,rfl⟩))|refine Z7 ?_|exact Zt|apply J.out;clear J ya
    ·have hv:Ab w=true:=by assumption
     refine⟨a.terms.length-(k+1),Agm,k+1,acc++(Mz k++Da l w),rfl,Agm,by rw[ad.out,Da,if_pos hv];simp[Kk],by simp,Xs,by have:=HT.out;have:=af.out;simp only[Aeb];omega,by rw[Agt,aa.out]⟩
    ·have hv:Ab w=false:=by assumption
     refine⟨a.terms.length-(k+1),Agm,k+1,acc++(Mz k++Da l w),rfl,Agm,by rw[ad.out,Da,if_neg (by rw[hv];simp)];simp,by simp,by have:=HT.out;have:=af.out;simp only[Aeb];omega,by rw[Agt,aa.out]⟩
  ·have an:k=a.terms.length:=Agm;subst an;rw[Adu]at hA
   repeat' first|refine Z1 ?_|refine Z8 fun ya J=>?_|refine Z4 ?_;clear J ya|refine Z2 ?_ ?_<;>intro h ab<;>try exact Xp|refine Z7 ?_|exact Zt|apply J.out;clear J ya
   first
   |exact⟨_,rfl,by rw[hA.out];simp[Dv,nI,hnt],hK⟩
   |exact⟨_,rfl,by rw[hA.out];simp[Dv,nI,hnt]⟩
def Wg (j:Nat):Tx:=if j=0 then [58,45]else [44]
def Gn (l:List Tx):Nat->List RAtom->Tx
 |_,[]=>[]
 |j,a::ls=>Wg j++Dv l a++Gn l (j+1) ls
theorem P5 (l:List Tx):∀(ls:List RAtom) (j:Nat) (a:RAtom),Gn l j (ls++[a])=Gn l j ls++(Wg (j+ls.length)++Dv l a)
 |[],j,a=>by simp[Gn]
 |b::ls,j,a=>by
  rw[Ae6,Gn,P5 l ls (j+1) a,Gn];simp only[Aed,Aem];rw[show j+1+ls.length=j+(ls.length+1)by omega]
theorem J8 {l:List Tx}{a:RAtom}(h:short a):(Dv l a).length<=1002003:=by
 obtain⟨h1,h2,h3⟩:=h;have h4:=Si l a.terms 0 h3;have h5:(if a.nt=true then ([33]:Tx)else []).length<=1:=by split<;>simp
 simp only[Dv,Aeb,Aff];omega
theorem nJ (j:Nat):(Wg j).length<=2:=by unfold Wg;split<;>simp
def Dq (x:RItem):Tx:=if x.out=true then 63::x.head.pred++[46]else Dv (Au x) x.head++Gn (Au x) 0 x.body++[46]
def RItem.short (x:RItem):Prop:=Go.Proofs.YtmoeoppbmhfbpaaGreatDoorD.short x.head/\∀a∈x.body,Go.Proofs.YtmoeoppbmhfbpaaGreatDoorD.short a
theorem jK {x:RItem}(hx:x.fits):((Ae x).flatMap (·.terms)).length<=1001*1000:=by
 have h1:=hx.atoms;have aa:∀a∈Ae x,a.terms.length<=1000:=by
  intro a ha;unfold Ae at ha;rcases Aet.1 ha with h|h
  ·split at h
   ·cases h
   ·simp at h;subst h;exact hx.2.1
  ·exact hx.2.2 a h
 generalize Ae x=ls at h1 aa;have:(ls.flatMap (·.terms)).length<=ls.length*1000:=by
  clear h1;induction ls with
  |nil=>simp
  |cons a ls ih=>
   have h2:=ih fun b hb=>aa b (by simp[hb]);have h3:=aa a (by simp);simp only[Ae0,Aeb,Aem];omega
 omega
theorem gZ {x:RItem}(hx:x.fits):(Au x).length<=10000000:=by
 have h1:=Ut ((Ae x).flatMap (·.terms)) [];have h2:=jK hx;unfold Au;rw[Ael,Aea]at h1;omega
theorem aV (x:RItem)(c:List AV)(hc:EItem x c)(hx:x.fits)(hs:x.short)(σ:St):ACalls Tryz.prog 154 [ag c] σ fun r σ'=>r=str (Dq x)/\Keep σ σ':=by
 have hO:=bK x c hc hx;have ap:=gZ hx;have a8:=hx.1;obtain⟨ih,id,b,hb,rfl⟩:=hc.cells;have bb:=EL.length Bc hb;obtain⟨ao,a5⟩:=hs;have a9:=ao.1;have bd:({data:=#[63]}:ByteArray)=bs [63]:=rfl;have bf:({data:=#[46]}:ByteArray)=bs [46]:=rfl;have bg:({data:=#[44]}:ByteArray)=bs [44]:=rfl;have be:({data:=#[58,45]}:ByteArray)=bs [58,45]:=rfl;refine Z9 43 [.tmp 2] Tryz.func154 ?_;cases ho:x.out with
 |true=>
  unfold A5;rw[ho]
  repeat' first|refine Z1 ?_|refine Z8 fun ya J=>?_|refine Z4 ?_;clear J ya|refine Z2 ?_ ?_<;>intro h ad<;>try exact Xp|refine Z7 ?_|exact Zt|apply J.out;clear J ya
  exact⟨_,rfl,by simp[Dq,ho],Xs⟩
 |false=>
  have a0:=J8 (l:=Au x) ao;unfold A5 at hO⊢;rw[ho]at hO⊢;have hW:=fun ido σ=>Se (Au x) ido x.head [sc (.bool x.head.nt),str x.head.pred,sl ih x.head.terms.length (x.head.terms.map str)] ⟨ih,rfl⟩ ap ao σ;generalize ax:Au x=lo at hO ap hW a0;have az:Agt _:=ax;clear ax
  repeat' first|refine Z1 ?_|refine Z8 fun ya J=>?_|refine Z4 ?_;clear J ya|refine Z2 ?_ ?_<;>intro h ad<;>try exact Xp|(refine Z5 ?_;first|(refine Xi (hO _) ?_;rintro _ _ ⟨ido,rfl,av⟩;(have ah:=av.obj;have ai:=av.nobj;(try simp only[Aa,Ac,Ax]at ai)))|(refine Xi (hW _ _) ?_;rintro _ _ ⟨rfl,ae⟩;(have ab:=ae.obj;have af:=ae.nobj)))|refine Z7 ?_|exact Zt|apply J.out;clear J ya
  rename_i σ1 σ2;have ay:Keep σ σ2:=Xs;have au:σ2.obj σ.nobj=[sc (.bool false),sc (.bool x.head.nt),str x.head.pred,sl ih x.head.terms.length (x.head.terms.map str),sl id x.body.length b]:=by
   rw[ab _ Agm,ah _ (by rw[Aa];omega),Al]
  have aj:σ.nobj<σ2.nobj:=Agm;clear ah ab av ae ai af hO hW
  refine Ad (fun m s σ'=>∃(j:Nat) (acc:Tx),m=x.body.length-j/\j<=x.body.length/\s 1=ptr σ.nobj 0/\s 3=sl ido lo.length (lo.map str)/\s 4=str acc/\s 5=sc (.int .i64 j)/\Keep σ σ'/\σ'.obj σ.nobj=[sc (.bool false),sc (.bool x.head.nt),str x.head.pred,sl ih x.head.terms.length (x.head.terms.map str),sl id x.body.length b]/\σ.nobj<σ'.nobj/\acc.length<=1002003+j*1002010/\Agt (acc=Dv lo x.head++Gn lo 0 (x.body.take j))) x.body.length
   ⟨0,Dv lo x.head,Agm,Agm,Ago,Ago,Ago,rfl,ay,au,aj,Agm,by simp[Agt,Gn]⟩ ?_
  clear ay au aj;rintro m s σ' ⟨j,acc,rfl,hj,h1,h3,h4,h5,hK,au,ba,bc,hA⟩;by_cases aw:j<x.body.length
  ·have ac:=Adn aw;have an:=a5 x.body[j] (Aes aw);obtain⟨ia,r,hd⟩:=Cm hb ac;generalize x.body[j]=a at hd ac an;have HG:Agt (x.body[j]?=some a):=ac;clear ac;have aa:Agt (Dv lo x.head++Gn lo 0 (x.body.take (j+1))=acc++(Wg j++Dv lo a)):=by
    rw[Agt,Ad0,HG.out,Aez,P5,hA.out,Aec,Aeh Agm,Aea,Aed]
   have a4:=J8 (l:=lo) an;have HB:Agt ((Wg j).length<=2):=nJ j;have hW:=fun σ=>Se lo ido a [sc (.bool a.nt),str a.pred,sl ia a.terms.length (a.terms.map str)] ⟨ia,rfl⟩ ap an σ;generalize a3:Dv lo a=wa at hW a4 aa;clear a3;by_cases ak:j=0
   ·have a7:((j:Int)==0)=true:=by simp[ak]
    have am:Agt (Wg j=[58,45]):=by simp[Agt,Wg,ak]
    clear ak
    repeat' first|refine Z1 ?_|refine Z8 fun ya J=>?_|refine Z4 ?_;clear J ya|refine Z2 ?_ ?_<;>intro h ad<;>try exact Xp|refine Z5 ?_;refine Xi (hW _) ?_;rintro _ _ ⟨rfl,ae⟩;(have ab:=ae.obj;have af:=ae.nobj)|refine Z7 ?_|exact Zt|apply J.out;clear J ya
    refine⟨x.body.length-(j+1),Agm,j+1,acc++(Wg j++wa),rfl,Agm,by rw[am.out];simp,by simp,Xs,Agm,by have:=HB.out;simp only[Aeb];omega,by rw[Agt,aa.out]⟩
   ·have a7:((j:Int)==0)=false:=by simp;omega
    have am:Agt (Wg j=[44]):=by simp[Agt,Wg,ak]
    clear ak
    repeat' first|refine Z1 ?_|refine Z8 fun ya J=>?_|refine Z4 ?_;clear J ya|refine Z2 ?_ ?_<;>intro h ad<;>try exact Xp|refine Z5 ?_;refine Xi (hW _) ?_;rintro _ _ ⟨rfl,ae⟩;(have ab:=ae.obj;have af:=ae.nobj)|refine Z7 ?_|exact Zt|apply J.out;clear J ya
    refine⟨x.body.length-(j+1),Agm,j+1,acc++(Wg j++wa),rfl,Agm,by rw[am.out];simp,by simp,Xs,Agm,by have:=HB.out;simp only[Aeb];omega,by rw[Agt,aa.out]⟩
  ·have a6:j=x.body.length:=Agm;subst a6;rw[Adu]at hA
   repeat' first|refine Z1 ?_|refine Z8 fun ya J=>?_|refine Z4 ?_;clear J ya|refine Z2 ?_ ?_<;>intro h ad<;>try exact Xp|refine Z7 ?_|exact Zt|apply J.out;clear J ya
   first
   |exact⟨_,rfl,by rw[hA.out];simp[Dq,ho,az.out],hK⟩
   |exact⟨_,rfl,by rw[hA.out];simp[Dq,ho,az.out]⟩
def Bm (l:List RItem):Tx:=l.flatMap Dq
theorem dB {l:List Tx}:∀(ls:List RAtom) (j:Nat),(∀a∈ls,short a)->(Gn l j ls).length<=ls.length*1002010
 |[],j,h=>by simp[Gn]
 |a::ls,j,h=>by
  have h1:=J8 (l:=l) (h a (by simp));have h2:=dB (l:=l) ls (j+1) fun b hb=>h b (by simp[hb]);have h3:=nJ j;simp only[Gn,Aeb,Aem];omega
theorem J7 {x:RItem}(hx:x.fits)(hs:x.short):(Dq x).length<=1100000000:=by
 have h1:=J8 (l:=Au x) hs.1;have h2:=dB (l:=Au x) x.body 0 hs.2;have h3:=hx.1;have h4:=hs.1.1;unfold Dq;split
 ·simp;omega
 ·simp only[Aeb,Aff];omega
theorem Nm (l:List RItem)(cs:List AV)(idl:Nat)(hE:EL EItem l cs)(hl:l.length<=16)(hf:∀x∈l,x.fits)(hs:∀x∈l,x.short)(σ:St):ACalls Tryz.prog 101 [sl idl l.length cs] σ fun r σ'=>r=str (Bm l)/\Keep σ σ':=by
 have ak:=EL.length Ci hE;refine Z9 19 [.tmp 2] Tryz.func101 ?_
 refine zx ?_
 refine Ad (fun m s σ'=>∃(i:Nat) (acc:Tx),m=l.length-i/\i<=l.length/\s 0=sl idl l.length cs/\s 3=str acc/\s 4=sc (.int .i64 i)/\Keep σ σ'/\acc.length<=i*1100000000/\Agt (acc=Bm (l.take i))) l.length
  ⟨0,[],Agm,Agm,rfl,rfl,rfl,Keep.refl _,by simp,by simp[Agt,Bm]⟩ ?_
 rintro m s σ' ⟨i,acc,rfl,hi,h0,h3,h4,hK,am,hA⟩;by_cases ac:i<l.length
 ·have aa:=Adn ac;have ad:=hf l[i] (Aes ac);have ab:=hs l[i] (Aes ac);obtain⟨ih,id,b,r,hb,hd⟩:=C4 hE aa;generalize l[i]=x at hd aa ad ab hb;have HG:Agt (l[i]?=some x):=aa;clear aa;have ah:=J7 ad ab;have hW:=fun σ=>aV x _ (EItem.of (ih:=ih) (id:=id) hb) ad ab σ;unfold A5 at hW;generalize af:Dq x=wx at hW ah;have aj:Agt _:=af;clear af
  repeat' first|refine Z1 ?_|refine Z8 fun ya J=>?_|refine Z4 ?_;clear J ya|refine Z2 ?_ ?_<;>intro h ae<;>try exact Xp|refine Z5 ?_;refine Xi (hW _) ?_;rintro _ _ ⟨rfl,an⟩|refine Z7 ?_|exact Zt|apply J.out;clear J ya
  refine⟨l.length-(i+1),Agm,i+1,acc++wx,rfl,Agm,by simp,by simp,Xs,by simp only[Aeb];omega,?_⟩;rw[Agt,Ad0,HG.out,hA.out];simp[Bm,aj.out]
 ·have ai:i=l.length:=Agm;subst ai;rw[Adu]at hA
  repeat' first|refine Z1 ?_|refine Z8 fun ya J=>?_|refine Z4 ?_;clear J ya|refine Z2 ?_ ?_<;>intro h ae<;>try exact Xp|refine Z7 ?_|exact Zt|apply J.out;clear J ya
  first
  |exact⟨_,rfl,by rw[hA.out],hK⟩
  |exact⟨_,rfl,by rw[hA.out]⟩
theorem qR {ts:List Tx}{t:Tx}(h:t∈ts):t.length<=(Cd ts).length:=by
 induction ts with
 |nil=>cases h
 |cons u ts ih=>
  unfold Cd at*
  simp only[Ae0,Aeb,Aem];rcases Ae2.1 h with rfl|h
  ·omega
  ·have:=ih h;omega
theorem W3 {ts:List Tx}{t:Tx}(h:t∈ts):t.length<=(Bj ts).length:=by
 cases ts with
 |nil=>cases h
 |cons u ts=>
  unfold Bj;simp only[Aeb];rcases Ae2.1 h with rfl|h
  ·omega
  ·have:=qR h;omega
theorem Qx {a:RAtom}(hw:a.terms.length<=3)(h:(Be a).length<=1000):short a:=by
 unfold Be at h;simp only[Aeb,Aem]at h;refine⟨Agm,Agm,fun t ht=>?_⟩;have:=W3 ht;omega
theorem dL {x:RItem}(hw:Du x)(h:(Cb x).length<=1000):x.short:=by
 obtain⟨-,h2,h3⟩:=hw;unfold Cb at h;cases ho:x.out with
 |true=>
  rw[if_pos ho]at h;obtain⟨-,q1,q2⟩:=h2 ho;simp only[Aem]at h;exact⟨⟨Agm,by simp[q1],by simp[q1]⟩,by simp[q2]⟩
 |false=>
  rw[if_neg (by rw[ho];simp)]at h;obtain⟨q1,-,q2,q3⟩:=h3 ho;unfold Dz at h;simp only[Aeb]at h;refine⟨Qx q1.2.2.1 Agm,fun a ha=>?_⟩;have aa:x.body≠[]:=by intro e;rw[e]at ha;cases ha
  rw[if_neg aa]at h;simp only[Aem]at h;have hm:=W3 (List.mem_map_of_mem (f:=Ch) ha);have hl:(Be a).length<=(Ch a).length:=by unfold Ch;simp
  exact Qx (q3 a ha).2.2.1 Agm
theorem kN {l:List RItem}{x:RItem}(h:x∈l):(Cb x).length<=(Cr l).length:=by
 induction l with
 |nil=>cases h
 |cons y l ih=>
  unfold Cr at*
  simp only[Ae0,Aeb];rcases Ae2.1 h with rfl|h
  ·omega
  ·have:=ih h;omega
theorem Q3 {s:Tx}{l:List RItem}{r:Tx}(hs:s.length<=1000)(h:Bv 16 s= .got l r):∀x∈l,x.short:=by
 obtain⟨h1,-,-,h4⟩:=Iw _ _ _ _ h;intro x hx;have:=kN hx;rw[<-h1]at this;exact dL (h4 x hx) Agm
def encI (t:Tx):AV:=sc (.int .i64 (Ap t).2)
theorem iK {l:List Tx}{k:Nat}(h:k<l.length):(l.map encI).drop k=sc (.int .i64 (Ap l[k]).2)::(l.map encI).drop (k+1):=by
 rw[Aeo (by simpa using h)];simp[encI]
def VL (l:List Tx):Prop:=∀t∈l,VT t/\Ab t=true
theorem pP {t u:Tx}(ht:VT t)(hu:VT u)(vt:Ab t=true)(vu:Ab u=true)(h:(Ap t).2=(Ap u).2):t=u:=by
 have:=wN ht hu vu;unfold Oc at this;rw[Pm ht,vt,h]at this;simpa using this.symm
theorem Pb (l:List Tx)(ids:Nat)(t:Tx)(hl:l.length<=10000000)(hL:VL l)(ht:VT t)(hv:Ab t=true)(σ:St):ACalls Tryz.prog 79 [sc (.int .i64 (Ap t).2),sl ids l.length (l.map encI)] σ fun x σ'=>x=sc (.int .i64 (Bt l t))/\σ'=σ:=by
 have aa:∀u∈l,(Ap u).2=(Ap t).2->u=t:=fun u hu h=>pP (hL u hu).1 ht (hL u hu).2 hv h;generalize aj:(Ap t).2=v at aa;have ap:Agt _:=aj;clear aj;refine Z9 19 [.tmp 4] Tryz.func79 ?_
 refine zz ?_
 refine Ad (fun m s' σ'=>∃i:Nat,m=l.length-i/\i<=l.length/\s' 0=sc (.int .i64 v)/\s' 7=sl ids l.length (l.map encI)/\s' 8=sc (.int .i64 l.length)/\s' 9=sc (.int .i64 i)/\σ'=σ/\Agt (∀a,a<i->l[a]?≠some t)) l.length
  ⟨0,Agm,Agm,rfl,rfl,rfl,rfl,rfl,fun a ha=>Agm⟩ ?_
 rintro m s' σ' ⟨i,rfl,hi,h0,h7,h8,h9,hσ,ac⟩;subst hσ;by_cases ae:i<l.length
 ·have ai:=iK ae;have HX:Agt (l[i]?=some l[i]):=Adn ae;have ab:=aa l[i] (Aes ae);generalize l[i]=w at ai HX ab;generalize ah:(Ap w).2=vw at ai ab;have ao:Agt _:=ah;have au:Agt _:=ab;clear ah ab aa
  repeat' first|refine Z1 ?_|refine Z8 fun ya J=>?_|refine Z4 ?_;clear J ya|refine Z2 ?_ ?_<;>intro h af<;>try exact Xp|refine Z3 ?_|exact Zt|apply J.out;clear J ya
  ·have hw:w=t:=au.out (by simpa using h);have ad:t∈l:=by rw[<-hw];exact Adp HX.out
   exact⟨_,rfl,by rw[Bt,if_pos ad,Mi ac.out (by rw[HX.out,hw])]⟩
  ·have hw:w≠t:=by
    rintro rfl;have:vw=v:=by rw[<-ao.out,<-ap.out]
    simp[this]at h
   refine⟨l.length-(i+1),Agm,i+1,rfl,Agm,by simp,?_⟩;intro a ha;by_cases an:a=i
   ·subst an;rw[HX.out];simpa using hw
   ·exact ac.out a Agm
 ·have am:i=l.length:=Agm;subst am;have ak:=N0 ac.out;clear aa
  repeat' first|refine Z1 ?_|refine Z8 fun ya J=>?_|refine Z4 ?_;clear J ya|refine Z2 ?_ ?_<;>intro h af<;>try exact Xp|refine Z3 ?_|exact Zt|apply J.out;clear J ya
  exact⟨_,rfl,by rw[Bt,if_neg ak]⟩
theorem Aat {l:List Tx}{t:Tx}(h:VL l)(ht:VT t):VL (Fp l t):=by
 unfold Fp;split
 ·rename_i hc;intro u hu;rcases Aet.1 hu with hu|hu
  ·exact h u hu
  ·simp at hu;subst hu;exact⟨ht,hc.1⟩
 ·exact h
theorem P6 (N:List Tx)(ls:List RAtom)(cs:List AV)(ida:Nat)(hE:EL (PC N) ls cs)(hV:∀a∈ls,VA a)(hn:ls.length<=1001)(a6:∀a∈ls,a.terms.length<=1000)(σ:St):
  ACalls Tryz.prog 111 [sl ida ls.length cs] σ fun r σ'=>∃id,r=sl id (Gi [] (ls.flatMap (·.terms))).length ((Gi [] (ls.flatMap (·.terms))).map encI)/\VL (Gi [] (ls.flatMap (·.terms)))/\Keep σ σ':=by
 have bf:=EL.length cV hE;refine Z9 39 [.tmp 2] Tryz.func111 ?_
 repeat' first|refine Z1 ?_|refine Z8 fun ya J=>?_|refine Z4 ?_;clear J ya|refine Z2 ?_ ?_<;>intro h ac<;>try exact Xp|refine Z3 ?_|exact Zt|apply J.out;clear J ya
 refine Ad (fun m s σ'=>∃(j i3:Nat) (l:List Tx),m=ls.length-j/\j<=ls.length/\s 3=sl i3 l.length (l.map encI)/\s 9=sl ida ls.length cs/\s 10=sc (.int .i64 ls.length)/\s 11=sc (.int .i64 j)/\Keep σ σ'/\Own σ σ' i3 l.length/\l.length<=j*1000/\Agt (VL l)/\Agt (l=Gi [] ((ls.take j).flatMap (·.terms)))) ls.length
  ⟨0,1,[],Agm,Agm,rfl,rfl,rfl,rfl,Keep.refl _,Own.nil _ _,by simp,(fun t ht=>by cases ht),by simp[Agt,Gi]⟩ ?_
 rintro m s σ' ⟨j,i3,l,rfl,hj,h3,h9,ao,an,hK,hO,aw,ad,hL⟩;by_cases am:j<ls.length
 ·have aa:=Adn am;have az:=a6 ls[j] (Aes am);have ak:=hV ls[j] (Aes am);obtain⟨ha,ia,r,hd⟩:=yH hE aa;generalize ls[j]=a at hd aa az ha ak;have HG:Agt (ls[j]?=some a):=aa;have bd:Agt (VA a):=ak;clear aa ak;have be:=Es a.terms;have ap:=hK.nobj
  repeat' first|refine Z1 ?_|refine Z8 fun ya J=>?_|refine Z4 ?_;clear J ya|refine Z2 ?_ ?_<;>intro h ac<;>try exact Xp|refine Z3 ?_|exact Zt|apply J.out;clear J ya
  refine Ad (fun m s σ'=>∃(k i3:Nat) (l:List Tx),m=a.terms.length-k/\k<=a.terms.length/\s 3=sl i3 l.length (l.map encI)/\s 9=sl ida ls.length cs/\s 10=sc (.int .i64 ls.length)/\s 11=sc (.int .i64 j)/\s 16=sl ia a.terms.length (A0 a.terms)/\s 17=sc (.int .i64 a.terms.length)/\s 18=sc (.int .i64 k)/\Keep σ σ'/\Own σ σ' i3 l.length/\l.length<=j*1000+k/\Agt (VL l)/\Agt (l=Gi [] ((ls.take j).flatMap (·.terms)++a.terms.take k))) a.terms.length
   ⟨0,i3,l,Agm,Agm,by simp[upd,h3],by simp[upd,h9],by simp[upd,ao],by simp[upd,an],Ago,rfl,rfl,(hK.new _).put hK.nobj _,Own.put (Own.new hO _) _ _,Agm,ad,by simpa using hL⟩ ?_
  clear hK hO hL aw ad h3 h9 ao an ap l;rintro m s σ' ⟨k,i3,l,rfl,hk,h3,h9,ao,an,bm,bi,bh,hK,hO,aw,ad,hL⟩;have ap:=hK.nobj;by_cases ae:k<a.terms.length
  ·have aa:=Adn ae;have ai:=bd.out a.terms[k] (Aes ae);obtain⟨r2,af⟩:=Fo aa;generalize a.terms[k]=w at af aa ai;have ab:Agt (Gi [] ((ls.take j).flatMap (·.terms)++a.terms.take (k+1))=Fp l w):=by
    rw[Agt,Ad0,aa,Aez,<-Aed,Zf,<-hL.out]
   have bc:Agt (VL (Fp l w)):=Aat ad.out ai;clear aa;have aj:=Pm ai;cases hv:Ab w with
   |true=>
    rw[hv]at aj;rw[aj]at af;have hP:=fun σ=>Pb l i3 w Agm ad.out ai hv σ;generalize au:(Ap w).2=w2 at af hP;have bb:Agt _:=au;clear au
    repeat' first|refine Z1 ?_|refine Z8 fun ya J=>?_|refine Z4 ?_;clear J ya|refine Z2 ?_ ?_<;>intro h ac<;>try exact Xp|refine Z5 ?_;refine Xi (hP _) ?_;rintro _ _ ⟨rfl,rfl⟩|refine Z3 ?_|exact Zt|apply J.out;clear J ya
    ·have ah:Bt l w= -1:=by simpa using h
     have a0:w∉l:=fun hm=>by rw[Bt,if_pos hm]at ah;omega
     have a8:Keep σ ((σ'.new [sc (.bool false),sc (.int .i64 0)]).put σ'.nobj [sc (.bool true),sc (.int .i64 w2)]):=(hK.new _).put hK.nobj _;refine Bz (by first|exact Qa) a8 (Own.put (Own.new hO _) _ _) (by decide) (by rfl) (by simp) (by rfl) (by rfl) (by decide) Agm Agm ?_;intro idn σn a7 bg ba ay a9 ax;refine Z3 ?_
     refine zz ?_
     have av:Fp l w=l++[w]:=by rw[Fp,if_pos ⟨hv,a0⟩]
     refine⟨a.terms.length-(k+1),Agm,k+1,idn,l++[w],rfl,Agm,?_,by simp,by simpa using a7,by simp;omega,by rw[<-av];exact bc,by rw[Agt,ab.out,av]⟩;simp[encI,bb.out]
    ·have ah:Bt l w≠ -1:=by simpa using h
     have a5:w∈l:=by
      by_cases hm:w∈l
      ·exact hm
      ·rw[Bt,if_neg hm]at ah;exact absurd rfl ah
     refine⟨a.terms.length-(k+1),Agm,k+1,i3,l,rfl,Agm,rfl,by simp,(hK.new _).put hK.nobj _,Own.put (Own.new hO _) _ _,Agm,ad,?_⟩;rw[Agt,ab.out,Fp,if_neg (fun h=>h.2 a5)]
   |false=>
    rw[hv]at aj;rw[aj]at af;generalize (Ap w).2=w2 at af
    repeat' first|refine Z1 ?_|refine Z8 fun ya J=>?_|refine Z4 ?_;clear J ya|refine Z2 ?_ ?_<;>intro h ac<;>try exact Xp|refine Z3 ?_|exact Zt|apply J.out;clear J ya
    refine⟨a.terms.length-(k+1),Agm,k+1,i3,l,rfl,Agm,rfl,by simp,(hK.new _).put hK.nobj _,Own.put (Own.new hO _) _ _,Agm,ad,?_⟩;rw[Agt,ab.out,Fp,if_neg (fun h=>by rw[hv]at h;cases h.1)]
  ·have a3:k=a.terms.length:=Agm;subst a3;rw[Adu]at hL
   repeat' first|refine Z1 ?_|refine Z8 fun ya J=>?_|refine Z4 ?_;clear J ya|refine Z2 ?_ ?_<;>intro h ac<;>try exact Xp|refine Z3 ?_|exact Zt|apply J.out;clear J ya
   exact⟨ls.length-(j+1),Agm,j+1,i3,l,rfl,Agm,rfl,by simp,hO,Agm,ad,by rw[Agt,Ad0,HG.out];simpa using hL.out⟩
 ·have a4:j=ls.length:=Agm;subst a4;rw[Adu]at hL
  repeat' first|refine Z1 ?_|refine Z8 fun ya J=>?_|refine Z4 ?_;clear J ya|refine Z2 ?_ ?_<;>intro h ac<;>try exact Xp|refine Z3 ?_|exact Zt|apply J.out;clear J ya
  rw[<-hL.out]
  first|exact⟨_,rfl,i3,rfl,ad.out,hK⟩|exact⟨_,rfl,i3,rfl,ad.out⟩
def Jn (l:List Tx)(t:Tx):List AV:=[sc (.bool (Ab t)),sc (.int .i64 (if Ab t=true then Bt l t else (Ap t).2))]
def Dm (l:List Tx)(ts:List Tx):List AV:=ts.flatMap (Jn l)
theorem lI (l ts:List Tx):(Dm l ts).length=ts.length*2:=by
 induction ts with
 |nil=>rfl
 |cons a ts ih=>unfold Dm at*;rw[Ae0,Aeb,ih];simp[Jn];omega
theorem fW (l ts:List Tx)(x:Tx):Dm l (ts++[x])=Dm l ts++Jn l x:=by simp[Dm]
theorem O9 (l:List Tx)(ido:Nat)(kp:Int)(ids:Nat)(a:RAtom)(hl:l.length<=10000000)(hL:VL l)(hV:VA a)(hn:a.terms.length<=1000)(σ:St):
  ACalls Tryz.prog 105 [ag [sc (.int .i64 kp),sl ids a.terms.length (A0 a.terms)],sl ido l.length (l.map encI)] σ fun r σ'=>∃id,r=ag [sc (.int .i64 kp),sl id a.terms.length (Dm l a.terms)]/\Keep σ σ':=by
 have a3:=Es a.terms;have az:Agt (VA a):=hV;clear hV;refine Z9 33 [.cell 4 94] Tryz.func105 ?_
 refine zz ?_
 refine Ad (fun m s σ'=>∃(k i3:Nat) (xs:List AV),m=a.terms.length-k/\k<=a.terms.length/\s 1=sl ido l.length (l.map encI)/\s 4=ptr (σ.nobj+1) 0/\s 5=ptr (σ.nobj+2) 0/\s 12=sl ids a.terms.length (A0 a.terms)/\s 13=sc (.int .i64 a.terms.length)/\s 14=sc (.int .i64 k)/\Keep σ σ'/\σ.nobj+2<σ'.nobj/\σ'.obj (σ.nobj+1)=[sc (.int .i64 0),nilS]/\σ'.obj (σ.nobj+2)=[sc (.int .i64 kp),sl i3 k xs]/\Own σ σ' i3 k/\xs.length=k*2/\Agt (xs=Dm l (a.terms.take k))) a.terms.length
  ⟨0,1,[],Agm,Agm,by simp[upd,initS],Ago,Ago,Ago,Ago,rfl,?_,?_,?_,?_,Own.nil _ _,by simp,by simp[Agt,Dm]⟩ ?_
 ·exact ((((Keep.refl σ).new _).new _).new _).put Agm _
 ·simp only[Ac,Aa];omega
 ·rw[Ak Agm,Ah Agq,Ca (by rw[Aa];omega) (by rw[Aa];omega)]
 ·rw[show σ.nobj+2=σ.nobj+1+1 by omega,Aj]
 rintro m s σ' ⟨k,i3,xs,rfl,hk,h1,h4,h5,a7,a6,a5,hK,a4,ax,aw,hO,au,hX⟩;have a0:=hK.nobj;by_cases av:k<a.terms.length
 ·have ab:=Adn av;have aj:=az.out a.terms[k] (Aes av);obtain⟨r2,ae⟩:=Fo ab;generalize a.terms[k]=w at ae ab aj;have ad:Agt (Dm l (a.terms.take (k+1))=xs++Jn l w):=by
   rw[Agt,Ad0,ab,Aez,fW,<-hX.out]
  clear ab;have ai:=Pm aj;cases hv:Ab w with
  |true=>
   rw[hv]at ai;rw[ai]at ae;have hP:=fun σ=>Pb l ido w hl hL aj hv σ;have ah:Agt (Jn l w=[sc (.bool true),sc (.int .i64 (Bt l w))]):=by simp[Agt,Jn,hv]
   generalize (Ap w).2=w2 at ae hP
   repeat' first|refine Z1 ?_|refine Z8 fun ya J=>?_|refine Z4 ?_;clear J ya|refine Z2 ?_ ?_<;>intro h ac<;>try exact Xp|refine Z5 ?_;refine Xi (hP _) ?_;rintro _ _ ⟨rfl,rfl⟩|refine Z3 ?_|exact Zt|apply J.out;clear J ya
   have am:Keep σ (((σ'.new [sc (.bool false),sc (.int .i64 0)]).put σ'.nobj [sc (.bool true),sc (.int .i64 w2)]).put σ'.nobj [sc (.bool true),sc (.int .i64 (Bt l w))]):=((hK.new _).put hK.nobj _).put hK.nobj _;refine Bz (by first|exact Hd) am (Own.put (Own.put (Own.new hO _) _ _) _ _) (by decide) (by rfl) au (by rfl) (by rfl) (by decide) Agm Agm ?_;intro idn σn ak an ap aa ao af;simp only[Ac,Aa]at aa;refine Z3 ?_
   repeat' first|refine Z1 ?_|refine Z8 fun ya J=>?_|refine Z4 ?_;clear J ya|refine Z2 ?_ ?_<;>intro h ac<;>try exact Xp|refine Z3 ?_|exact Zt|apply J.out;clear J ya
   refine⟨a.terms.length-(k+1),Agm,k+1,idn,_,rfl,Agm,by simp,an.put Agm _,Agm,rfl,Own.put ak _ _,by simp;omega,?_⟩;rw[Agt,ad.out,ah.out]
  |false=>
   rw[hv]at ai;rw[ai]at ae;have ah:Agt (Jn l w=[sc (.bool false),sc (.int .i64 (Ap w).2)]):=by simp[Agt,Jn,hv]
   generalize (Ap w).2=w2 at ae ah
   repeat' first|refine Z1 ?_|refine Z8 fun ya J=>?_|refine Z4 ?_;clear J ya|refine Z2 ?_ ?_<;>intro h ac<;>try exact Xp|refine Z3 ?_|exact Zt|apply J.out;clear J ya
   have am:Keep σ ((σ'.new [sc (.bool false),sc (.int .i64 0)]).put σ'.nobj [sc (.bool false),sc (.int .i64 w2)]):=(hK.new _).put hK.nobj _;refine Bz (by first|exact Hd) am (Own.put (Own.new hO _) _ _) (by decide) (by rfl) au (by rfl) (by rfl) (by decide) Agm Agm ?_;intro idn σn ak an ap aa ao af;simp only[Ac,Aa]at aa;refine Z3 ?_
   repeat' first|refine Z1 ?_|refine Z8 fun ya J=>?_|refine Z4 ?_;clear J ya|refine Z2 ?_ ?_<;>intro h ac<;>try exact Xp|refine Z3 ?_|exact Zt|apply J.out;clear J ya
   refine⟨a.terms.length-(k+1),Agm,k+1,idn,_,rfl,Agm,by simp,an.put Agm _,Agm,rfl,Own.put ak _ _,by simp;omega,?_⟩;rw[Agt,ad.out,ah.out]
 ·have ay:k=a.terms.length:=Agm;subst ay;rw[Adu]at hX
  repeat' first|refine Z1 ?_|refine Z8 fun ya J=>?_|refine Z4 ?_;clear J ya|refine Z2 ?_ ?_<;>intro h ac<;>try exact Xp|refine Z3 ?_|exact Zt|apply J.out;clear J ya
  exact⟨_,rfl,i3,by rw[hX.out],hK.put Agm _⟩
theorem Rm (N:List Tx)(x:RItem)(c:List AV)(hc:PI N x c)(ho:x.out=true->x.body=[])(hx:x.fits)(hV:∀a∈Ae x,VA a)(σ:St):ACalls Tryz.prog 66 [ag c] σ fun r σ'=>∃id,r=sl id (Au x).length ((Au x).map encI)/\VL (Au x)/\Keep σ σ':=by
 have hA:=Lm N x c hc ho (by have:=hx.1;omega);have ab:∀a∈Ae x,a.terms.length<=1000:=by
  intro a ha;unfold Ae at ha;rcases Aet.1 ha with h|h
  ·split at h
   ·cases h
   ·simp at h;subst h;exact hx.2.1
  ·exact hx.2.2 a h
 have ac:=hx.atoms;have aa:=fun cs ida hE σ=>P6 N (Ae x) cs ida hE hV ac ab σ;obtain⟨hm,ih,id,b,hb,rfl⟩:=hc;unfold Au;generalize Gi [] ((Ae x).flatMap (·.terms))=lo at aa;refine Z9 6 [.tmp 2] Tryz.func66 ?_
 repeat' first|refine Z1 ?_|refine Z8 fun ya J=>?_|refine Z4 ?_;clear J ya|(refine Z5 ?_;first|(refine Xi (hA _) ?_;rintro _ _ ⟨ida,cs,rfl,hE,af⟩)|(refine Xi (aa _ _ (by assumption) _) ?_;rintro _ _ ⟨id2,rfl,ad,ae⟩))|refine Z3 ?_|exact Zt|apply J.out;clear J ya
 exact⟨_,rfl,id2,rfl,Xs⟩
end Go.Proofs.YtmoeoppbmhfbpaaGreatDoorD
