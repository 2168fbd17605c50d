import Derived.Shelf.Strconv.Itoa3
import Derived.Test.YtmoeoppbmhfbpabGreatDoorProg
import Derived.Test.YtmoeoppbmhfbpabGreatDoorIAbsWp
import Derived.Test.YtmoeoppbmhfbpabGreatDoorIProgM
import Derived.Test.YtmoeoppbmhfbpabGreatDoorILawA
set_option maxHeartbeats 16000000
set_option maxRecDepth 100000
set_option linter.all false
open List renaming length->Z
namespace Go.Proofs
open Go.Shelf
def Tryz.laysM171_ren:Go.Shelf.Ren:=⟨fun|171=>88|243=>143|246=>191|283=>228|284=>229|285=>230|286=>231|129=>259|317=>258|318=>260|319=>261|320=>262|337=>267|338=>268|n=>n,fun|3=>3|9=>9|2=>2|4=>4|171=>276|0=>0|53=>277|37=>87|5=>5|173=>280|212=>298|51=>299|20=>20|213=>300|46=>301|232=>306|233=>307|n=>n,fun|17=>0|18=>1|19=>2|n=>n⟩
theorem Tryz.laysM171:Go.Proofs.LaysM.n171 Tryz.prog Tryz.laysM171_ren:={
 mixed:=by kernel_rfl
 f129:=Tryz.func259.trans (congrArg some (by kernel_rfl))
 f171:=Tryz.func88.trans (congrArg some (by kernel_rfl))
 f243:=Tryz.func143.trans (congrArg some (by kernel_rfl))
 f246:=Tryz.func191.trans (congrArg some (by kernel_rfl))
 f283:=Tryz.func228.trans (congrArg some (by kernel_rfl))
 f284:=Tryz.func229.trans (congrArg some (by kernel_rfl))
 f285:=Tryz.func230.trans (congrArg some (by kernel_rfl))
 f286:=Tryz.func231.trans (congrArg some (by kernel_rfl))
 f317:=Tryz.func258.trans (congrArg some (by kernel_rfl))
 f318:=Tryz.func260.trans (congrArg some (by kernel_rfl))
 f319:=Tryz.func261.trans (congrArg some (by kernel_rfl))
 f320:=Tryz.func262.trans (congrArg some (by kernel_rfl))
 f337:=Tryz.func267.trans (congrArg some (by kernel_rfl))
 f338:=Tryz.func268.trans (congrArg some (by kernel_rfl))
 t0:=Tryz.underlying0
 a0:=Tryz.isAgg0
 z0:=Tryz.sizeOf0
 v0:=Tryz.zeroValue0
 t2:=Tryz.underlying2
 a2:=Tryz.isAgg2
 z2:=Tryz.sizeOf2
 v2:=Tryz.zeroValue2
 t3:=Tryz.underlying3
 a3:=Tryz.isAgg3
 z3:=Tryz.sizeOf3
 v3:=Tryz.zeroValue3
 t4:=Tryz.underlying4
 a4:=Tryz.isAgg4
 z4:=Tryz.sizeOf4
 v4:=Tryz.zeroValue4
 t5:=Tryz.underlying5
 a5:=Tryz.isAgg5
 z5:=Tryz.sizeOf5
 v5:=Tryz.zeroValue5
 t9:=Tryz.underlying9
 a9:=Tryz.isAgg9
 z9:=Tryz.sizeOf9
 v9:=Tryz.zeroValue9
 t20:=Tryz.underlying20
 a20:=Tryz.isAgg20
 z20:=Tryz.sizeOf20
 v20:=Tryz.zeroValue20
 t37:=Tryz.underlying87
 a37:=Tryz.isAgg87
 z37:=Tryz.sizeOf87
 v37:=Tryz.zeroValue87
 t46:=Tryz.underlying301
 a46:=Tryz.isAgg301
 z46:=Tryz.sizeOf301
 v46:=Tryz.zeroValue301
 t51:=Tryz.underlying299
 a51:=Tryz.isAgg299
 z51:=Tryz.sizeOf299
 v51:=Tryz.zeroValue299
 t53:=Tryz.underlying277
 a53:=Tryz.isAgg277
 z53:=Tryz.sizeOf277
 v53:=Tryz.zeroValue277
 t171:=Tryz.underlying276
 a171:=Tryz.isAgg276
 z171:=Tryz.sizeOf276
 v171:=Tryz.zeroValue276
 t173:=Tryz.underlying280
 a173:=Tryz.isAgg280
 z173:=Tryz.sizeOf280
 v173:=Tryz.zeroValue280
 t212:=Tryz.underlying298
 a212:=Tryz.isAgg298
 z212:=Tryz.sizeOf298
 v212:=Tryz.zeroValue298
 t213:=Tryz.underlying300
 a213:=Tryz.isAgg300
 z213:=Tryz.sizeOf300
 t232:=Tryz.underlying306
 a232:=Tryz.isAgg306
 z232:=Tryz.sizeOf306
 v232:=Tryz.zeroValue306
 t233:=Tryz.underlying307
 a233:=Tryz.isAgg307
 z233:=Tryz.sizeOf307
 v233:=Tryz.zeroValue307
 g17:=by kernel_rfl
 g18:=by kernel_rfl
 g19:=by kernel_rfl
 i0:=by kernel_rfl
 i2:=by kernel_rfl
 i3:=by kernel_rfl
 i4:=by kernel_rfl
 i5:=by kernel_rfl
 i9:=by kernel_rfl
 i20:=by kernel_rfl
 i37:=by kernel_rfl
 i46:=by kernel_rfl
 i51:=by kernel_rfl
 i53:=by kernel_rfl
 i171:=by kernel_rfl
 i173:=by kernel_rfl
 i212:=by kernel_rfl
 i232:=by kernel_rfl
 i233:=by kernel_rfl
 m17:=by kernel_rfl
 m18:=by kernel_rfl
 m19:=by kernel_rfl}
end Go.Proofs
namespace Go.Proofs.YtmoeoppbmhfbpabGreatDoorI
open Go.Abs Go.Sort
open Go.RowKit (Below)
theorem No (w:World)(k os){b}(h:b<w.heap.size):(grow (w.drewN k) os).heap[b]?=w.heap[b]?:=by
 show (w.heap++os)[b]?=w.heap[b]?;exact Array.getElem?_append_left h
theorem zH (w:World)(k os){b o}(h:b<w.heap.size):(grow (w.drewN k) os).cell? ⟨b,o,none⟩=w.cell? ⟨b,o,none⟩:=by
 unfold World.cell?;rw[No w k os h]
theorem zB {G σ w}(I:Abs.Inv G σ w)(k os):Abs.Inv G σ (grow (w.drewN k) os)/\CH G σ w G σ (grow (w.drewN k) os):=by
 have E:CH G σ w G σ (grow (w.drewN k) os):=⟨rfl,rfl,AR _,fun _ _=>rfl,AR _,fun _ _=>⟨AR _,rfl,fun _=>⟨rfl,rfl⟩⟩,fun b off p=>⟨p,zH w k os (I.perlt _ _ p)⟩,fun o h=>⟨AR _,fun _=>No w k os (I.blk_lt h)⟩⟩;have aa:w.heap.size<=(grow (w.drewN k) os).heap.size:=by
  show w.heap.size<=(w.heap++os).size;rw[Array.size_append];omega
 refine⟨⟨fun p hp=>?_,I.inj,fun k hk=>?_,I.linj,I.apart,fun b off p=>By (I.perlt _ _ p) aa,I.perlo,?_,BO I.le aa,I.hyp⟩,E⟩
 ·obtain⟨h1,h2,h3⟩:=I.C p hp;refine⟨h1,By h2 aa,fun ab=>?_⟩;obtain⟨⟨arr,e,hb,ha⟩,h4⟩:=h3 ab;exact⟨⟨arr,e,by rw[No _ _ _ (I.blk_lt hp)];exact hb,VR.all E ha⟩,h4⟩
 ·obtain⟨h1,⟨arr,e,hb,ha⟩,h3⟩:=I.lin k hk;exact⟨h1,⟨arr,e,by rw[No _ _ _ (I.cur_lt hk)];exact hb,ha⟩,h3⟩
 ·have hb:=I.below;have hl:=I.le;exact⟨hb.os,hb.tape,hb.output,BO hb.size aa,fun j hj=>by rw[No _ _ _ AA];exact hb.block j hj⟩
theorem dN (n)(h0:0<=n)(h1:n<=9999)(σ):AF Tryz.prog 88 [ic n] σ fun x σ'=>x=str (Lib.itoa n)/\σ'=σ:=by
 refine⟨AH,fun G w cargs I A=>?_⟩;obtain⟨v,rfl⟩:∃v,cargs=#[v]:=by
  have hl:=A.1
  match cargs,hl with
  |⟨[v]⟩,_=>exact⟨v,rfl⟩
 have hv:v= .int .i64 n:=(A.2 0 v _ rfl rfl).unfold;subst hv;refine (Any.strconv_Itoa Tryz.laysM171 n AA AA w (I.hyp w I.below)).mono ?_;rintro e w' ⟨rfl,k,os,rfl⟩;obtain⟨I',E⟩:=zB I k os;exact⟨_,G,_,σ,rfl,I',E,VR.sc _,rfl,rfl⟩
open Go.Abs
def DT (w:Tx):Prop:=Ac w=true\/(Ac w=false/\Lib.itoa (Ap w).2=w/\0<=(Ap w).2/\(Ap w).2<=999)
theorem jC {b m}(h:b.toNat=m):UInt8.ofNat m=b:=by rw[<-h];exact UInt8.ofNat_toNat
theorem Nt {v d}(hv:1<=v)(hd:d<=9):Lib.decDigits (v*10+d)=Lib.decDigits v++[UInt8.ofNat (48+d)]:=by
 rw[Lib.decDigits,dif_neg AA,show (v*10+d) / 10=v by omega,show (v*10+d) % 10=d by omega]
theorem gT {w}{m:Nat}(hv:Ac w=false)(hw:w≠[])(hn:I7 w=(m:Int))(hm:m<=999)(hd:Lib.decDigits m=w):DT w:=by
 cases w with
 |nil=>exact absurd rfl hw
 |cons b r=>
  refine .inr ⟨hv,?_⟩;rw[Nr hv];dsimp only;rw[hn];exact⟨by rw[Lib.itoa_nonneg,hd],AA,AA⟩
theorem W9 (s w r)(h:Cu s= .got w r):DT w:=by
 cases s with
 |nil=>cases h
 |cons b q=>
  unfold Cu at h;dsimp only at h;split at h
  ·rename_i hl;cases h;exact .inl hl
  rename_i hl;have hl:Bw b.toNat=false:=by simpa using hl
  split at h
  ·rename_i h0;cases h;have ad:b.toNat=48:=by
    have:(b.toNat:Int)=48:=by simpa using h0
    omega
   exact gT (m:=0) hl (by simp) (by simp[I7,ad]) AA (by rw[Lib.decDigits_one AA,jC ad])
  split at h
  ·rename_i h9;cases h;have hb:49<=b.toNat/\b.toNat<=57:=by simp[G3]at h9;omega
   have aa:=(Ew A8 2 q).2;have ac:Z (Aw A8 2 q).1<=2:=by
    cases q with
    |nil=>simp[Aw]
    |cons c q=>
     unfold Aw;split
     ·cases q with
      |nil=>simp[Aw]
      |cons d q=>unfold Aw;split<;>simp[Aw]
     ·simp
   have ab:∀c:UInt8,A8 c.toNat=true->48<=c.toNat/\c.toNat<=57:=fun c hc=>by simp[A8]at hc;omega
   have d1:Lib.decDigits (b.toNat-48)=[b]:=by rw[Lib.decDigits_one AA,jC (show b.toNat=48+(b.toNat-48)by omega)]
   generalize (Aw A8 2 q).1=ds at aa ac
   match ds,aa,ac with
   |[],_,_=>exact gT (m:=b.toNat-48) hl (by simp) (by simp[I7];omega) AA d1
   |[c],aa,_=>
    have hc:=ab c (aa c (by simp));have d2:Lib.decDigits ((b.toNat-48)*10+(c.toNat-48))=[b,c]:=by rw[Nt AA AA,d1,jC (show c.toNat=48+(c.toNat-48)by omega)];rfl
    exact gT (m:=(b.toNat-48)*10+(c.toNat-48)) hl (by simp) (by simp[I7];omega) AA d2
   |[c,d],aa,_=>
    have hc:=ab c (aa c (by simp));have hd:=ab d (aa d (by simp));have d2:Lib.decDigits ((b.toNat-48)*10+(c.toNat-48))=[b,c]:=by rw[Nt AA AA,d1,jC (show c.toNat=48+(c.toNat-48)by omega)];rfl
    have d3:Lib.decDigits (((b.toNat-48)*10+(c.toNat-48))*10+(d.toNat-48))=[b,c,d]:=by rw[Nt AA AA,d2,jC (show d.toNat=48+(d.toNat-48)by omega)];rfl
    exact gT (m:=((b.toNat-48)*10+(c.toNat-48))*10+(d.toNat-48)) hl (by simp) (by simp[I7];omega) AA d3
  ·cases h
def Bl (l:List Tx)(s:Tx):Int:=if s∈l then ((l.idxOf s:Nat):Int)else -1
theorem Hq (l ids n)(hl:Z l<=10000000)(σ):AF Tryz.prog 68 [sl ids (Z l) (l.map str),str n] σ fun x σ'=>x=ic (Bl l n)/\σ'=σ:=by
 refine Z9 19 [.tmp 4] Tryz.func68 ?_
 refine zx ?_
 refine Ae (fun m s' σ'=>∃i:Nat,m=Z l-i/\i<=Z l/\s' 0=sl ids (Z l) (l.map str)/\s' 1=str n/\s' 5=ic i/\σ'=σ/\AD (∀a,a<i->l[a]?≠some n)) (Z l)
  ⟨0,AA,AA,rfl,rfl,rfl,rfl,fun a ha=>AA⟩ ?_
 rintro m s' σ' ⟨i,rfl,hi,h0,h1,h5,hσ,aa⟩;subst hσ;by_cases ad:i<Z l
 ·have ae:=A7 ad;have HX:AD (l[i]?=some l[i]):=AJ ad;generalize l[i]=w at ae HX
  repeat' first|refine Z1 ?_|refine Z8 fun yd yb=>?_|refine Z4 ?_;clear yb yd|refine Z2 ?_ ?_<;>intro h ac<;>try exact Xp|refine Z7 ?_|exact Zt|apply yb.o;clear yb yd
  ·have hw:w=n:=by simpa using h
   subst hw;have ab:w∈l:=BD HX.o;exact⟨_,rfl,by rw[Bl,if_pos ab,Om aa.o HX.o]⟩
  ·have hw:w≠n:=by simpa using h
   refine⟨Z l-(i+1),AA,i+1,rfl,AA,by simp,?_⟩;intro a ha;by_cases ah:a=i
   ·subst ah;rw[HX.o];simpa using hw
   ·exact aa.o a AA
 ·have hil:i=Z l:=AA;subst hil;have af:=P6 aa.o
  refine p6 ?_
  exact⟨_,rfl,by rw[Bl,if_neg af]⟩
def Ft (acc:List Tx)(t:Tx):List Tx:=if Ac t=true/\t∉acc then acc++[t]else acc
def G7 (acc:List Tx)(ts:List Tx):List Tx:=ts.foldl Ft acc
def Ba (x:AB):List Tx:=G7 [] ((Af x).flatMap (·.A))
theorem X5 (ts):∀acc,Z (G7 acc ts)<=Z acc+Z ts:=by
 induction ts with
 |nil=>intro acc;simp[G7]
 |cons t ts ih=>
  intro acc;have:=ih (Ft acc t);have h2:Z (Ft acc t)<=Z acc+1:=by unfold Ft;split<;>simp
  simp only[G7,IB,BQ]at*
  omega
theorem dE (acc ts t):G7 acc (ts++[t])=Ft (G7 acc ts) t:=by simp[G7]
theorem fU (x c)(hc:AN x c)(hx:x.fits)(σ):AF Tryz.prog 98 [ag c] σ fun r σ'=>∃id,r=sl id (Z (Ba x)) ((Ba x).map str)/\AE σ σ':=by
 have hA:=L5 x c hc (by have:=hx.1;omega);obtain⟨ih,id,b,hb,rfl⟩:=hc.cells;have a5:=hx.atoms;have ay:∀a∈Af x,Z a.A<=1000:=by
  intro a ha;unfold Af at ha;rcases AW.1 ha with h|h
  ·split at h
   ·cases h
   ·simp at h;subst h;exact hx.2.1
  ·exact hx.2.2 a h
 refine Z9 47 [.tmp 2] Tryz.func98 ?_
 repeat' first|refine Z1 ?_|refine Z8 fun yd yb=>?_|refine Z4 ?_;clear yb yd|refine Z5 ?_;refine Xi (hA _) ?_;rintro _ _ ⟨ida,cs,rfl,hE,ak⟩;(have ad:=ak.B;(try simp only[Aa,Ab,Av]at ad))|refine Z7 ?_|exact Zt|apply yb.o;clear yb yd
 rename_i σ1;have a4:=EL.length Bb hE;have aj:AE σ σ1:=Xs;clear ak
 refine Ae (fun m s σ'=>∃(j i3:Nat) (l:List Tx),m=Z (Af x)-j/\j<=Z (Af x)/\s 3=sl i3 (Z l) (l.map str)/\s 4=sl ida (Z (Af x)) cs/\s 5=ic j/\AE σ σ'/\Own σ σ' i3 (Z l)/\Z l<=j*1000/\AD (l=G7 [] (((Af x).take j).flatMap (·.A)))) (Z (Af x))
  ⟨0,1,[],AA,AA,rfl,rfl,rfl,aj,Own.nil _ _,by simp,by simp[AD,G7]⟩ ?_
 clear aj ad;rintro m s σ' ⟨j,i3,l,rfl,hj,h3,h4,h5,hK,hO,ai,hL⟩;by_cases ah:j<Z (Af x)
 ·have ac:=AJ ah;have ap:=ay (Af x)[j] (AT ah);obtain⟨ia,r,hd⟩:=Cf hE ac;generalize (Af x)[j]=a at hd ac ap;have HG:AD ((Af x)[j]?=some a):=ac;clear ac
  refine p6 ?_
  refine Ae (fun m s σ'=>∃(k i3:Nat) (l:List Tx),m=Z a.A-k/\k<=Z a.A/\s 3=sl i3 (Z l) (l.map str)/\s 4=sl ida (Z (Af x)) cs/\s 5=ic j/\s 6=ic k/\AE σ σ'/\Own σ σ' i3 (Z l)/\Z l<=j*1000+k/\AD (l=G7 [] (((Af x).take j).flatMap (·.A)++a.A.take k))) (Z a.A)
   ⟨0,i3,l,AA,AA,by simp[upd,h3],by simp[upd,h4],by simp[upd,h5],rfl,hK,hO,AA,by simpa using hL⟩ ?_
  clear hK hO hL ai h3 h4 h5 l;rintro m s σ' ⟨k,i3,l,rfl,hk,h3,h4,h5,h6,hK,hO,ai,hL⟩;by_cases ae:k<Z a.A
  ·have ao:=A7 ae;have HX:AD (a.A[k]?=some a.A[k]):=AJ ae;generalize a.A[k]=w at ao HX;have aa:AD (G7 [] (((Af x).take j).flatMap (·.A)++a.A.take (k+1))=Ft l w):=by
    rw[AD,AU,HX.o,BJ,<-CX,dE,<-hL.o]
   repeat' first|refine Z1 ?_|refine Z8 fun yd yb=>?_|refine Z4 ?_;clear yb yd|refine Z2 ?_ ?_<;>intro h ab<;>try exact Xp|refine Z6 ?_;intro idn σn az a6 a3 an a0 am|(refine Z5 ?_;first|(refine Xi (Dt _ _) ?_;rintro _ _ ⟨rfl,rfl⟩)|(refine Xi (Hq l i3 w AA _) ?_;rintro _ _ ⟨rfl,rfl⟩))|refine Z7 ?_|exact Zt|apply yb.o;clear yb yd
   ·have au:w∉l:=fun hm=>by
     rw[Bl,if_pos hm]at ab;omega
    have af:Ac w=true:=by assumption
    refine⟨Z a.A-(k+1),AA,k+1,idn,l++[w],rfl,AA,by simp,by simp,by simpa using az,by simp;omega,?_⟩;rw[AD,aa.o,Ft,if_pos ⟨af,au⟩]
   ·have ax:w∈l:=by
     by_cases hm:w∈l
     ·exact hm
     ·rw[Bl,if_neg hm]at ab;omega
    refine⟨Z a.A-(k+1),AA,k+1,i3,l,rfl,AA,rfl,by simp,hO,AA,?_⟩;rw[AD,aa.o,Ft,if_neg (fun h=>h.2 ax)]
   ·have af:Ac w=false:=by assumption
    refine⟨Z a.A-(k+1),AA,k+1,i3,l,rfl,AA,rfl,by simp,hO,AA,?_⟩;rw[AD,aa.o,Ft,if_neg (fun h=>by rw[af]at h;cases h.1)]
  ·have av:k=Z a.A:=AA;subst av;rw[AS]at hL
   refine p6 ?_
   exact⟨Z (Af x)-(j+1),AA,j+1,i3,l,rfl,AA,rfl,by simp,hO,AA,by rw[AD,AU,HG.o];simpa using hL.o⟩
 ·have aw:j=Z (Af x):=AA;subst aw;rw[AS]at hL
  refine p6 ?_
  rw[Ba,<-hL.o]
  first|exact⟨_,rfl,i3,rfl,hK⟩|exact⟨_,rfl,i3,rfl⟩
def Iq (k:Int):UInt8:=UInt8.ofNat (IntKind.u8.wrap (IntKind.i64.wrap (65+Int.tmod k 26))).toNat
def Ev (l:List Tx)(t:Tx):Tx:=if Ac t=true then [Iq (Bl l t)]else t
def Mp (k:Nat):Tx:=if k=0 then [40]else [44]
def Hk (l:List Tx):Nat->List Tx->Tx
 |_,[]=>[]
 |k,t::ts=>Mp k++Ev l t++Hk l (k+1) ts
theorem N8 (l):∀(ts:List Tx) (k:Nat) (t:Tx),Hk l k (ts++[t])=Hk l k ts++(Mp (k+Z ts)++Ev l t)
 |[],k,t=>by simp[Hk]
 |u::ts,k,t=>by
  rw[FC,Hk,N8 l ts (k+1) t,Hk];simp only[CX,BQ];rw[show k+1+Z ts=k+(Z ts+1)by omega]
def Da (l:List Tx)(a:AC):Tx:=(if a.nt=true then [33]else [])++a.B++Hk l 0 a.A++[41]
def short (a:AC):Prop:=Z a.B<=1000/\Z a.A<=1000/\∀t∈a.A,Z t<=1000
theorem Ut (l t)(h:Z t<=1000):Z (Ev l t)<=1000:=by unfold Ev;split<;>simp[h]
theorem Mo (l):∀(ts:List Tx) (k:Nat),(∀t∈ts,Z t<=1000)->Z (Hk l k ts)<=Z ts*1001
 |[],k,h=>by simp[Hk]
 |t::ts,k,h=>by
  have h1:=Ut l t (h t (by simp));have h2:=Mo l ts (k+1) fun u hu=>h u (by simp[hu]);have h3:Z (Mp k)=1:=by unfold Mp;split<;>rfl
  simp only[Hk,AX,BQ];omega
def tR (a:AC):Tx:=(if a.nt=true then [33]else [])++a.B
theorem Po (l ids a c)(hc:Bo a c)(hl:Z l<=10000000)(hs:short a)(σ):AF Tryz.prog 119 [ag c,sl ids (Z l) (l.map str)] σ fun r σ'=>r=str (Da l a)/\AE σ σ':=by
 obtain⟨ia,rfl⟩:=hc;obtain⟨a3,a0,ap⟩:=hs;have a4:({data:=#[33]}:ByteArray)=bs [33]:=rfl;refine Z9 47 [.tmp 4] Tryz.func119 ?_;cases hnt:a.nt with
 |true=>
  refine p6 ?_
  refine Ae (fun m s σ'=>∃(k:Nat) (acc:Tx),m=Z a.A-k/\k<=Z a.A/\s 1=sl ids (Z l) (l.map str)/\s 2=ptr σ.B 0/\s 5=str acc/\s 6=ic k/\AE σ σ'/\σ'.C σ.B=[sc (.bool a.nt),str a.B,sl ia (Z a.A) (a.A.map str)]/\σ.B<σ'.B/\Z acc<=1001+k*1001/\AD (acc=tR a++Hk l 0 (a.A.take k))) (Z a.A)
   ⟨0,tR a,AA,AA,rfl,rfl,by simp[upd,tR,hnt],rfl,Xs,by rw[hnt];exact Ao,by simp[Aa],by simp[tR,hnt];omega,by simp[AD,Hk]⟩ ?_
  rintro m s σ' ⟨k,acc,rfl,hk,h1,h2,h5,h6,hK,au,av,aw,hA⟩;have az:({data:=#[40]}:ByteArray)=bs [40]:=rfl;have ax:({data:=#[44]}:ByteArray)=bs [44]:=rfl;have ay:({data:=#[41]}:ByteArray)=bs [41]:=rfl;have am:∀z:UInt8,({data:=#[z]}:ByteArray)=bs [z]:=fun _=>rfl;by_cases ah:k<Z a.A
  ·have ak:=A7 ah;have HX:AD (a.A[k]?=some a.A[k]):=AJ ah;have ai:=ap a.A[k] (AT ah);generalize a.A[k]=w at ak HX ai;have aa:AD (tR a++Hk l 0 (a.A.take (k+1))=acc++(Mp k++Ev l w)):=by
    rw[AD,AU,HX.o,BJ,N8,hA.o,CV,EZ AA,EJ,CX]
   have aj:Z (Ev l w)<=1000:=Ut l w ai;have ac:Z (Mp k)=1:=by unfold Mp;split<;>rfl
   have HT:AD (Z (Ev l w)<=1000):=aj;have af:AD (Z (Mp k)=1):=ac;clear aj ac;by_cases ae:k=0
   ·have ao:((k:Int)==0)=true:=by simp[ae]
    have ad:AD (Mp k=[40]):=by simp[AD,Mp,ae]
    clear ae
    repeat' first|refine Z1 ?_|refine Z8 fun yd yb=>?_|refine Z4 ?_;clear yb yd|refine Z2 ?_ ?_<;>intro h ab<;>try exact Xp|(refine Z5 ?_;first|(refine Xi (Dt _ _) ?_;rintro _ _ ⟨rfl,rfl⟩)|(refine Xi (Hq l ids w hl _) ?_;rintro _ _ ⟨rfl,rfl⟩))|refine Z7 ?_|exact Zt|apply yb.o;clear yb yd
    ·have hv:Ac w=true:=by assumption
     refine⟨Z a.A-(k+1),AA,k+1,acc++(Mp k++Ev l w),rfl,AA,by rw[ad.o,Ev,if_pos hv];simp[Iq],by simp,Xs,by have:=HT.o;have:=af.o;simp only[AX];omega,by rw[AD,aa.o]⟩
    ·have hv:Ac w=false:=by assumption
     refine⟨Z a.A-(k+1),AA,k+1,acc++(Mp k++Ev l w),rfl,AA,by rw[ad.o,Ev,if_neg (by rw[hv];simp)];simp,by simp,by have:=HT.o;have:=af.o;simp only[AX];omega,by rw[AD,aa.o]⟩
   ·have ao:((k:Int)==0)=false:=by simp;omega
    have ad:AD (Mp k=[44]):=by simp[AD,Mp,ae]
    clear ae
    repeat' first|refine Z1 ?_|refine Z8 fun yd yb=>?_|refine Z4 ?_;clear yb yd|refine Z2 ?_ ?_<;>intro h ab<;>try exact Xp|(refine Z5 ?_;first|(refine Xi (Dt _ _) ?_;rintro _ _ ⟨rfl,rfl⟩)|(refine Xi (Hq l ids w hl _) ?_;rintro _ _ ⟨rfl,rfl⟩))|refine Z7 ?_|exact Zt|apply yb.o;clear yb yd
    ·have hv:Ac w=true:=by assumption
     refine⟨Z a.A-(k+1),AA,k+1,acc++(Mp k++Ev l w),rfl,AA,by rw[ad.o,Ev,if_pos hv];simp[Iq],by simp,Xs,by have:=HT.o;have:=af.o;simp only[AX];omega,by rw[AD,aa.o]⟩
    ·have hv:Ac w=false:=by assumption
     refine⟨Z a.A-(k+1),AA,k+1,acc++(Mp k++Ev l w),rfl,AA,by rw[ad.o,Ev,if_neg (by rw[hv];simp)];simp,by simp,by have:=HT.o;have:=af.o;simp only[AX];omega,by rw[AD,aa.o]⟩
  ·have an:k=Z a.A:=AA;subst an;rw[AS]at hA
   refine p6 ?_
   first
   |exact⟨_,rfl,by rw[hA.o];simp[Da,tR,hnt],hK⟩
   |exact⟨_,rfl,by rw[hA.o];simp[Da,tR,hnt]⟩
 |false=>
  refine p6 ?_
  refine Ae (fun m s σ'=>∃(k:Nat) (acc:Tx),m=Z a.A-k/\k<=Z a.A/\s 1=sl ids (Z l) (l.map str)/\s 2=ptr σ.B 0/\s 5=str acc/\s 6=ic k/\AE σ σ'/\σ'.C σ.B=[sc (.bool a.nt),str a.B,sl ia (Z a.A) (a.A.map str)]/\σ.B<σ'.B/\Z acc<=1001+k*1001/\AD (acc=tR a++Hk l 0 (a.A.take k))) (Z a.A)
   ⟨0,tR a,AA,AA,rfl,rfl,by simp[upd,tR,hnt],rfl,Xs,by rw[hnt];exact Ao,by simp[Aa],by simp[tR,hnt];omega,by simp[AD,Hk]⟩ ?_
  rintro m s σ' ⟨k,acc,rfl,hk,h1,h2,h5,h6,hK,au,av,aw,hA⟩;have az:({data:=#[40]}:ByteArray)=bs [40]:=rfl;have ax:({data:=#[44]}:ByteArray)=bs [44]:=rfl;have ay:({data:=#[41]}:ByteArray)=bs [41]:=rfl;have am:∀z:UInt8,({data:=#[z]}:ByteArray)=bs [z]:=fun _=>rfl;by_cases ah:k<Z a.A
  ·have ak:=A7 ah;have HX:AD (a.A[k]?=some a.A[k]):=AJ ah;have ai:=ap a.A[k] (AT ah);generalize a.A[k]=w at ak HX ai;have aa:AD (tR a++Hk l 0 (a.A.take (k+1))=acc++(Mp k++Ev l w)):=by
    rw[AD,AU,HX.o,BJ,N8,hA.o,CV,EZ AA,EJ,CX]
   have aj:Z (Ev l w)<=1000:=Ut l w ai;have ac:Z (Mp k)=1:=by unfold Mp;split<;>rfl
   have HT:AD (Z (Ev l w)<=1000):=aj;have af:AD (Z (Mp k)=1):=ac;clear aj ac;by_cases ae:k=0
   ·have ao:((k:Int)==0)=true:=by simp[ae]
    have ad:AD (Mp k=[40]):=by simp[AD,Mp,ae]
    clear ae
    repeat' first|refine Z1 ?_|refine Z8 fun yd yb=>?_|refine Z4 ?_;clear yb yd|refine Z2 ?_ ?_<;>intro h ab<;>try exact Xp|(refine Z5 ?_;first|(refine Xi (Dt _ _) ?_;rintro _ _ ⟨rfl,rfl⟩)|(refine Xi (Hq l ids w hl _) ?_;rintro _ _ ⟨rfl,rfl⟩))|refine Z7 ?_|exact Zt|apply yb.o;clear yb yd
    ·have hv:Ac w=true:=by assumption
     refine⟨Z a.A-(k+1),AA,k+1,acc++(Mp k++Ev l w),rfl,AA,by rw[ad.o,Ev,if_pos hv];simp[Iq],by simp,Xs,by have:=HT.o;have:=af.o;simp only[AX];omega,by rw[AD,aa.o]⟩
    ·have hv:Ac w=false:=by assumption
     refine⟨Z a.A-(k+1),AA,k+1,acc++(Mp k++Ev l w),rfl,AA,by rw[ad.o,Ev,if_neg (by rw[hv];simp)];simp,by simp,by have:=HT.o;have:=af.o;simp only[AX];omega,by rw[AD,aa.o]⟩
   ·have ao:((k:Int)==0)=false:=by simp;omega
    have ad:AD (Mp k=[44]):=by simp[AD,Mp,ae]
    clear ae
    repeat' first|refine Z1 ?_|refine Z8 fun yd yb=>?_|refine Z4 ?_;clear yb yd|refine Z2 ?_ ?_<;>intro h ab<;>try exact Xp|(refine Z5 ?_;first|(refine Xi (Dt _ _) ?_;rintro _ _ ⟨rfl,rfl⟩)|(refine Xi (Hq l ids w hl _) ?_;rintro _ _ ⟨rfl,rfl⟩))|refine Z7 ?_|exact Zt|apply yb.o;clear yb yd
    ·have hv:Ac w=true:=by assumption
     refine⟨Z a.A-(k+1),AA,k+1,acc++(Mp k++Ev l w),rfl,AA,by rw[ad.o,Ev,if_pos hv];simp[Iq],by simp,Xs,by have:=HT.o;have:=af.o;simp only[AX];omega,by rw[AD,aa.o]⟩
    ·have hv:Ac w=false:=by assumption
     refine⟨Z a.A-(k+1),AA,k+1,acc++(Mp k++Ev l w),rfl,AA,by rw[ad.o,Ev,if_neg (by rw[hv];simp)];simp,by simp,by have:=HT.o;have:=af.o;simp only[AX];omega,by rw[AD,aa.o]⟩
  ·have an:k=Z a.A:=AA;subst an;rw[AS]at hA
   refine p6 ?_
   first
   |exact⟨_,rfl,by rw[hA.o];simp[Da,tR,hnt],hK⟩
   |exact⟨_,rfl,by rw[hA.o];simp[Da,tR,hnt]⟩
def Zk (j:Nat):Tx:=if j=0 then [58,45]else [44]
def Hp (l:List Tx):Nat->List AC->Tx
 |_,[]=>[]
 |j,a::ls=>Zk j++Da l a++Hp l (j+1) ls
theorem Sd (l):∀(ls:List AC) (j:Nat) (a:AC),Hp l j (ls++[a])=Hp l j ls++(Zk (j+Z ls)++Da l a)
 |[],j,a=>by simp[Hp]
 |b::ls,j,a=>by
  rw[FC,Hp,Sd l ls (j+1) a,Hp];simp only[CX,BQ];rw[show j+1+Z ls=j+(Z ls+1)by omega]
theorem Le {l a}(h:short a):Z (Da l a)<=1002003:=by
 obtain⟨h1,h2,h3⟩:=h;have h4:=Mo l a.A 0 h3;have h5:Z (if a.nt=true then ([33]:Tx)else [])<=1:=by split<;>simp
 simp only[Da,AX,LO];omega
theorem tS (j):Z (Zk j)<=2:=by unfold Zk;split<;>simp
def C0 (x:AB):Tx:=if x.o=true then 63::x.h.B++[46]else Da (Ba x) x.h++Hp (Ba x) 0 x.A++[46]
def AB.short (x:AB):Prop:=Go.Proofs.YtmoeoppbmhfbpabGreatDoorI.short x.h/\∀a∈x.A,Go.Proofs.YtmoeoppbmhfbpabGreatDoorI.short a
theorem oK {x}(hx:x.fits):Z ((Af x).flatMap (·.A))<=1001*1000:=by
 have h1:=hx.atoms;have aa:∀a∈Af x,Z a.A<=1000:=by
  intro a ha;unfold Af at ha;rcases AW.1 ha with h|h
  ·split at h
   ·cases h
   ·simp at h;subst h;exact hx.2.1
  ·exact hx.2.2 a h
 generalize Af x=ls at h1 aa;have:Z (ls.flatMap (·.A))<=Z ls*1000:=by
  clear h1;induction ls with
  |nil=>simp
  |cons a ls ih=>
   have h2:=ih fun b hb=>aa b (by simp[hb]);have h3:=aa a (by simp);simp only[DK,AX,BQ];omega
 omega
theorem mN {x}(hx:x.fits):Z (Ba x)<=10000000:=by
 have h1:=X5 ((Af x).flatMap (·.A)) [];have h2:=oK hx;unfold Ba;rw[CP,EJ]at h1;omega
theorem eS (x c)(hc:AN x c)(hx:x.fits)(hs:x.short)(σ):AF Tryz.prog 112 [ag c] σ fun r σ'=>r=str (C0 x)/\AE σ σ':=by
 have hO:=fU x c hc hx;have ap:=mN hx;have a8:=hx.1;obtain⟨ih,id,b,hb,rfl⟩:=hc.cells;have bb:=EL.length Bb hb;obtain⟨ao,a5⟩:=hs;have a9:=ao.1;have bd:({data:=#[63]}:ByteArray)=bs [63]:=rfl;have bf:({data:=#[46]}:ByteArray)=bs [46]:=rfl;have bg:({data:=#[44]}:ByteArray)=bs [44]:=rfl;have be:({data:=#[58,45]}:ByteArray)=bs [58,45]:=rfl;refine Z9 43 [.tmp 2] Tryz.func112 ?_;cases ho:x.o with
 |true=>
  unfold Bm;rw[ho]
  refine p6 ?_
  exact⟨_,rfl,by simp[C0,ho],Xs⟩
 |false=>
  have a0:=Le (l:=Ba x) ao;unfold Bm at hO⊢;rw[ho]at hO⊢;have hW:=fun ido σ=>Po (Ba x) ido x.h [sc (.bool x.h.nt),str x.h.B,sl ih (Z x.h.A) (x.h.A.map str)] ⟨ih,rfl⟩ ap ao σ;generalize ax:Ba x=lo at hO ap hW a0;have az:AD _:=ax;clear ax
  repeat' first|refine Z1 ?_|refine Z8 fun yd yb=>?_|refine Z4 ?_;clear yb yd|refine Z2 ?_ ?_<;>intro h ad<;>try exact Xp|(refine Z5 ?_;first|(refine Xi (hO _) ?_;rintro _ _ ⟨ido,rfl,av⟩;(have ah:=av.C;have ai:=av.B;(try simp only[Aa,Ab,Av]at ai)))|(refine Xi (hW _ _) ?_;rintro _ _ ⟨rfl,ae⟩;(have ab:=ae.C;have af:=ae.B)))|refine Z7 ?_|exact Zt|apply yb.o;clear yb yd
  rename_i σ1 σ2;have ay:AE σ σ2:=Xs;have au:σ2.C σ.B=[sc (.bool false),sc (.bool x.h.nt),str x.h.B,sl ih (Z x.h.A) (x.h.A.map str),sl id (Z x.A) b]:=by
   rw[ab _ AA,ah _ (by rw[Aa];omega),Ao]
  have aj:σ.B<σ2.B:=AA;clear ah ab av ae ai af hO hW
  refine Ae (fun m s σ'=>∃(j:Nat) (acc:Tx),m=Z x.A-j/\j<=Z x.A/\s 1=ptr σ.B 0/\s 3=sl ido (Z lo) (lo.map str)/\s 4=str acc/\s 5=ic j/\AE σ σ'/\σ'.C σ.B=[sc (.bool false),sc (.bool x.h.nt),str x.h.B,sl ih (Z x.h.A) (x.h.A.map str),sl id (Z x.A) b]/\σ.B<σ'.B/\Z acc<=1002003+j*1002010/\AD (acc=Da lo x.h++Hp lo 0 (x.A.take j))) (Z x.A)
   ⟨0,Da lo x.h,AA,AA,AG,AG,AG,rfl,ay,au,aj,AA,by simp[AD,Hp]⟩ ?_
  clear ay au aj;rintro m s σ' ⟨j,acc,rfl,hj,h1,h3,h4,h5,hK,au,ba,bc,hA⟩;by_cases aw:j<Z x.A
  ·have ac:=AJ aw;have an:=a5 x.A[j] (AT aw);obtain⟨ia,r,hd⟩:=Cf hb ac;generalize x.A[j]=a at hd ac an;have HG:AD (x.A[j]?=some a):=ac;clear ac;have aa:AD (Da lo x.h++Hp lo 0 (x.A.take (j+1))=acc++(Zk j++Da lo a)):=by
    rw[AD,AU,HG.o,BJ,Sd,hA.o,CV,EZ AA,EJ,CX]
   have a4:=Le (l:=lo) an;have HB:AD (Z (Zk j)<=2):=tS j;have hW:=fun σ=>Po lo ido a [sc (.bool a.nt),str a.B,sl ia (Z a.A) (a.A.map str)] ⟨ia,rfl⟩ ap an σ;generalize a3:Da lo a=wa at hW a4 aa;clear a3;by_cases ak:j=0
   ·have a7:((j:Int)==0)=true:=by simp[ak]
    have am:AD (Zk j=[58,45]):=by simp[AD,Zk,ak]
    clear ak
    repeat' first|refine Z1 ?_|refine Z8 fun yd yb=>?_|refine Z4 ?_;clear yb yd|refine Z2 ?_ ?_<;>intro h ad<;>try exact Xp|refine Z5 ?_;refine Xi (hW _) ?_;rintro _ _ ⟨rfl,ae⟩;(have ab:=ae.C;have af:=ae.B)|refine Z7 ?_|exact Zt|apply yb.o;clear yb yd
    refine⟨Z x.A-(j+1),AA,j+1,acc++(Zk j++wa),rfl,AA,by rw[am.o];simp,by simp,Xs,AA,by have:=HB.o;simp only[AX];omega,by rw[AD,aa.o]⟩
   ·have a7:((j:Int)==0)=false:=by simp;omega
    have am:AD (Zk j=[44]):=by simp[AD,Zk,ak]
    clear ak
    repeat' first|refine Z1 ?_|refine Z8 fun yd yb=>?_|refine Z4 ?_;clear yb yd|refine Z2 ?_ ?_<;>intro h ad<;>try exact Xp|refine Z5 ?_;refine Xi (hW _) ?_;rintro _ _ ⟨rfl,ae⟩;(have ab:=ae.C;have af:=ae.B)|refine Z7 ?_|exact Zt|apply yb.o;clear yb yd
    refine⟨Z x.A-(j+1),AA,j+1,acc++(Zk j++wa),rfl,AA,by rw[am.o];simp,by simp,Xs,AA,by have:=HB.o;simp only[AX];omega,by rw[AD,aa.o]⟩
  ·have a6:j=Z x.A:=AA;subst a6;rw[AS]at hA
   refine p6 ?_
   first
   |exact⟨_,rfl,by rw[hA.o];simp[C0,ho,az.o],hK⟩
   |exact⟨_,rfl,by rw[hA.o];simp[C0,ho,az.o]⟩
def Cm (l:List AB):Tx:=l.flatMap C0
theorem iO {l}:∀(ls:List AC) (j:Nat),(∀a∈ls,short a)->Z (Hp l j ls)<=Z ls*1002010
 |[],j,h=>by simp[Hp]
 |a::ls,j,h=>by
  have h1:=Le (l:=l) (h a (by simp));have h2:=iO (l:=l) ls (j+1) fun b hb=>h b (by simp[hb]);have h3:=tS j;simp only[Hp,AX,BQ];omega
theorem Ld {x}(hx:x.fits)(hs:x.short):Z (C0 x)<=1100000000:=by
 have h1:=Le (l:=Ba x) hs.1;have h2:=iO (l:=Ba x) x.A 0 hs.2;have h3:=hx.1;have h4:=hs.1.1;unfold C0;split
 ·simp;omega
 ·simp only[AX,LO];omega
theorem Va (l cs idl)(hE:EL AN l cs)(hl:Z l<=16)(hf:∀x∈l,x.fits)(hs:∀x∈l,x.short)(σ):AF Tryz.prog 64 [sl idl (Z l) cs] σ fun r σ'=>r=str (Cm l)/\AE σ σ':=by
 have aj:=EL.length Cj hE;refine Z9 19 [.tmp 2] Tryz.func64 ?_
 refine zx ?_
 refine Ae (fun m s σ'=>∃(i:Nat) (acc:Tx),m=Z l-i/\i<=Z l/\s 0=sl idl (Z l) cs/\s 3=str acc/\s 4=ic i/\AE σ σ'/\Z acc<=i*1100000000/\AD (acc=Cm (l.take i))) (Z l)
  ⟨0,[],AA,AA,rfl,rfl,rfl,AE.refl _,by simp,by simp[AD,Cm]⟩ ?_
 rintro m s σ' ⟨i,acc,rfl,hi,h0,h3,h4,hK,ak,hA⟩;by_cases ac:i<Z l
 ·have aa:=AJ ac;have ad:=hf l[i] (AT ac);have ab:=hs l[i] (AT ac);obtain⟨ih,id,b,r,hb,hd⟩:=Ds hE aa;generalize l[i]=x at hd aa ad ab hb;have HG:AD (l[i]?=some x):=aa;clear aa;have ah:=Ld ad ab;have hW:=fun σ=>eS x _ (AN.of (ih:=ih) (id:=id) hb) ad ab σ;unfold Bm at hW;generalize af:C0 x=wx at hW ah;have ai:AD _:=af;clear af
  repeat' first|refine Z1 ?_|refine Z8 fun yd yb=>?_|refine Z4 ?_;clear yb yd|refine Z2 ?_ ?_<;>intro h ae<;>try exact Xp|refine Z5 ?_;refine Xi (hW _) ?_;rintro _ _ ⟨rfl,am⟩|refine Z7 ?_|exact Zt|apply yb.o;clear yb yd
  refine⟨Z l-(i+1),AA,i+1,acc++wx,rfl,AA,by simp,by simp,Xs,by simp only[AX];omega,?_⟩;rw[AD,AU,HG.o,hA.o];simp[Cm,ai.o]
 ·have hil:i=Z l:=AA;subst hil;rw[AS]at hA
  refine p6 ?_
  first
  |exact⟨_,rfl,by rw[hA.o],hK⟩
  |exact⟨_,rfl,by rw[hA.o]⟩
theorem xJ {ts t}(h:t∈ts):Z t<=Z (Cg ts):=by
 induction ts with
 |nil=>cases h
 |cons u ts ih=>
  unfold Cg at*
  simp only[DK,AX,BQ];rcases BB.1 h with rfl|h
  ·omega
  ·have:=ih h;omega
theorem aR {ts t}(h:t∈ts):Z t<=Z (Bu ts):=by
 cases ts with
 |nil=>cases h
 |cons u ts=>
  unfold Bu;simp only[AX];rcases BB.1 h with rfl|h
  ·omega
  ·have:=xJ h;omega
theorem Ts {a}(hw:Z a.A<=3)(h:Z (A3 a)<=1000):short a:=by
 unfold A3 at h;simp only[AX,BQ]at h;refine⟨AA,AA,fun t ht=>?_⟩;have:=aR ht;omega
theorem iZ {x}(hw:De x)(h:Z (Ce x)<=1000):x.short:=by
 obtain⟨-,h2,h3⟩:=hw;unfold Ce at h;cases ho:x.o with
 |true=>
  rw[if_pos ho]at h;obtain⟨-,q1,q2⟩:=h2 ho;simp only[BQ]at h;exact⟨⟨AA,by simp[q1],by simp[q1]⟩,by simp[q2]⟩
 |false=>
  rw[if_neg (by rw[ho];simp)]at h;obtain⟨q1,-,q2,q3⟩:=h3 ho;unfold D6 at h;simp only[AX]at h;refine⟨Ts q1.2.2.1 AA,fun a ha=>?_⟩;have aa:x.A≠[]:=by intro e;rw[e]at ha;cases ha
  rw[if_neg aa]at h;simp only[BQ]at h;have hm:=aR (List.mem_map_of_mem (f:=Cp) ha);have hl:Z (A3 a)<=Z (Cp a):=by unfold Cp;simp
  exact Ts (q3 a ha).2.2.1 AA
theorem qB {l x}(h:x∈l):Z (Ce x)<=Z (Cr l):=by
 induction l with
 |nil=>cases h
 |cons y l ih=>
  unfold Cr at*
  simp only[DK,AX];rcases BB.1 h with rfl|h
  ·omega
  ·have:=ih h;omega
theorem Ty {s l r}(hs:Z s<=1000)(h:Bv 16 s= .got l r):∀x∈l,x.short:=by
 obtain⟨h1,-,-,h4⟩:=Ey _ _ _ _ h;intro x hx;have:=qB hx;rw[<-h1]at this;exact iZ (h4 x hx) AA
def encI (t:Tx):AV:=ic (Ap t).2
theorem nB {l k}(h:k<Z l):(l.map encI).drop k=ic (Ap l[k]).2::(l.map encI).drop (k+1):=by
 rw[FJ (by simpa using h)];simp[encI]
def VL (l:List Tx):Prop:=∀t∈l,VT t/\Ac t=true
theorem wM {t u}(ht:VT t)(hu:VT u)(vt:Ac t=true)(vu:Ac u=true)(h:(Ap t).2=(Ap u).2):t=u:=by
 have:=RO ht hu vu;unfold Qf at this;rw[Rt ht,vt,h]at this;simpa using this.symm
theorem Q8 (l ids t)(hl:Z l<=10000000)(hL:VL l)(ht:VT t)(hv:Ac t=true)(σ):AF Tryz.prog 85 [ic (Ap t).2,sl ids (Z l) (l.map encI)] σ fun x σ'=>x=ic (Bl l t)/\σ'=σ:=by
 have aa:∀u∈l,(Ap u).2=(Ap t).2->u=t:=fun u hu h=>wM (hL u hu).1 ht (hL u hu).2 hv h;generalize aj:(Ap t).2=v at aa;have ao:AD _:=aj;clear aj;refine Z9 19 [.tmp 4] Tryz.func85 ?_
 refine zz ?_
 refine Ae (fun m s' σ'=>∃i:Nat,m=Z l-i/\i<=Z l/\s' 0=ic v/\s' 7=sl ids (Z l) (l.map encI)/\s' 8=ic (Z l)/\s' 9=ic i/\σ'=σ/\AD (∀a,a<i->l[a]?≠some t)) (Z l)
  ⟨0,AA,AA,rfl,rfl,rfl,rfl,rfl,fun a ha=>AA⟩ ?_
 rintro m s' σ' ⟨i,rfl,hi,h0,h7,h8,h9,hσ,ac⟩;subst hσ;by_cases ae:i<Z l
 ·have ai:=nB ae;have HX:AD (l[i]?=some l[i]):=AJ ae;have ab:=aa l[i] (AT ae);generalize l[i]=w at ai HX ab;generalize ah:(Ap w).2=vw at ai ab;have an:AD _:=ah;have ap:AD _:=ab;clear ah ab aa
  refine qe ?_ ?_<;>intro h af
  ·have hw:w=t:=ap.o (by simpa using h);have ad:t∈l:=by rw[<-hw];exact BD HX.o
   exact⟨_,rfl,by rw[Bl,if_pos ad,Om ac.o (by rw[HX.o,hw])]⟩
  ·have hw:w≠t:=by
    rintro rfl;have:vw=v:=by rw[<-an.o,<-ao.o]
    simp[this]at h
   refine⟨Z l-(i+1),AA,i+1,rfl,AA,by simp,?_⟩;intro a ha;by_cases am:a=i
   ·subst am;rw[HX.o];simpa using hw
   ·exact ac.o a AA
 ·have hil:i=Z l:=AA;subst hil;have ak:=P6 ac.o;clear aa
  refine pz ?_
  exact⟨_,rfl,by rw[Bl,if_neg ak]⟩
theorem nh {l t}(h:VL l)(ht:VT t):VL (Ft l t):=by
 unfold Ft;split
 ·rename_i hc;intro u hu;rcases AW.1 hu with hu|hu
  ·exact h u hu
  ·simp at hu;subst hu;exact⟨ht,hc.1⟩
 ·exact h
theorem Sf (N ls cs ida)(hE:EL (PC N) ls cs)(hV:∀a∈ls,VA a)(hn:Z ls<=1001)(a6:∀a∈ls,Z a.A<=1000)(σ):
  AF Tryz.prog 150 [sl ida (Z ls) cs] σ fun r σ'=>∃id,r=sl id (Z (G7 [] (ls.flatMap (·.A)))) ((G7 [] (ls.flatMap (·.A))).map encI)/\VL (G7 [] (ls.flatMap (·.A)))/\AE σ σ':=by
 have bf:=EL.length iI hE;refine Z9 39 [.tmp 2] Tryz.func150 ?_
 refine pz ?_
 refine Ae (fun m s σ'=>∃(j i3:Nat) (l:List Tx),m=Z ls-j/\j<=Z ls/\s 3=sl i3 (Z l) (l.map encI)/\s 9=sl ida (Z ls) cs/\s 10=ic (Z ls)/\s 11=ic j/\AE σ σ'/\Own σ σ' i3 (Z l)/\Z l<=j*1000/\AD (VL l)/\AD (l=G7 [] ((ls.take j).flatMap (·.A)))) (Z ls)
  ⟨0,1,[],AA,AA,rfl,rfl,rfl,rfl,AE.refl _,Own.nil _ _,by simp,(fun t ht=>by cases ht),by simp[AD,G7]⟩ ?_
 rintro m s σ' ⟨j,i3,l,rfl,hj,h3,h9,ao,an,hK,hO,aw,ad,hL⟩;by_cases am:j<Z ls
 ·have aa:=AJ am;have az:=a6 ls[j] (AT am);have ak:=hV ls[j] (AT am);obtain⟨ha,ia,r,hd⟩:=QB hE aa;generalize ls[j]=a at hd aa az ha ak;have HG:AD (ls[j]?=some a):=aa;have bd:AD (VA a):=ak;clear aa ak;have be:=Fp a.A;have ap:=hK.B
  refine pz ?_
  refine Ae (fun m s σ'=>∃(k i3:Nat) (l:List Tx),m=Z a.A-k/\k<=Z a.A/\s 3=sl i3 (Z l) (l.map encI)/\s 9=sl ida (Z ls) cs/\s 10=ic (Z ls)/\s 11=ic j/\s 16=sl ia (Z a.A) (A2 a.A)/\s 17=ic (Z a.A)/\s 18=ic k/\AE σ σ'/\Own σ σ' i3 (Z l)/\Z l<=j*1000+k/\AD (VL l)/\AD (l=G7 [] ((ls.take j).flatMap (·.A)++a.A.take k))) (Z a.A)
   ⟨0,i3,l,AA,AA,by simp[upd,h3],by simp[upd,h9],by simp[upd,ao],by simp[upd,an],AG,rfl,rfl,(hK.new _).put hK.B _,Own.put (Own.new hO _) _ _,AA,ad,by simpa using hL⟩ ?_
  clear hK hO hL aw ad h3 h9 ao an ap l;rintro m s σ' ⟨k,i3,l,rfl,hk,h3,h9,ao,an,bl,bi,bh,hK,hO,aw,ad,hL⟩;have ap:=hK.B;by_cases ae:k<Z a.A
  ·have aa:=AJ ae;have ai:=bd.o a.A[k] (AT ae);obtain⟨r2,af⟩:=Gu aa;generalize a.A[k]=w at af aa ai;have ab:AD (G7 [] ((ls.take j).flatMap (·.A)++a.A.take (k+1))=Ft l w):=by
    rw[AD,AU,aa,BJ,<-CX,dE,<-hL.o]
   have bc:AD (VL (Ft l w)):=nh ad.o ai;clear aa;have aj:=Rt ai;cases hv:Ac w with
   |true=>
    rw[hv]at aj;rw[aj]at af;have hP:=fun σ=>Q8 l i3 w AA ad.o ai hv σ;generalize au:(Ap w).2=w2 at af hP;have bb:AD _:=au;clear au
    repeat' first|refine Z1 ?_|refine Z8 fun yd yb=>?_|refine Z4 ?_;clear yb yd|refine Z2 ?_ ?_<;>intro h ac<;>try exact Xp|refine Z5 ?_;refine Xi (hP _) ?_;rintro _ _ ⟨rfl,rfl⟩|refine Z3 ?_|exact Zt|apply yb.o;clear yb yd
    ·have ah:Bl l w= -1:=by simpa using h
     have a0:w∉l:=fun hm=>by rw[Bl,if_pos hm]at ah;omega
     have a8:AE σ ((σ'.new [sc (.bool false),ic 0]).put σ'.B [sc (.bool true),ic w2]):=(hK.new _).put hK.B _;refine Bn (by first|exact Si) a8 (Own.put (Own.new hO _) _ _) (by decide) (by rfl) (by simp) (by rfl) (by rfl) (by decide) AA AA ?_;intro idn σn a7 bg ba ay a9 ax;refine Z3 ?_
     refine zz ?_
     have av:Ft l w=l++[w]:=by rw[Ft,if_pos ⟨hv,a0⟩]
     refine⟨Z a.A-(k+1),AA,k+1,idn,l++[w],rfl,AA,?_,by simp,by simpa using a7,by simp;omega,by rw[<-av];exact bc,by rw[AD,ab.o,av]⟩;simp[encI,bb.o]
    ·have ah:Bl l w≠ -1:=by simpa using h
     have a5:w∈l:=by
      by_cases hm:w∈l
      ·exact hm
      ·rw[Bl,if_neg hm]at ah;exact absurd rfl ah
     refine⟨Z a.A-(k+1),AA,k+1,i3,l,rfl,AA,rfl,by simp,(hK.new _).put hK.B _,Own.put (Own.new hO _) _ _,AA,ad,?_⟩;rw[AD,ab.o,Ft,if_neg (fun h=>h.2 a5)]
   |false=>
    rw[hv]at aj;rw[aj]at af;generalize (Ap w).2=w2 at af
    refine pz ?_
    refine⟨Z a.A-(k+1),AA,k+1,i3,l,rfl,AA,rfl,by simp,(hK.new _).put hK.B _,Own.put (Own.new hO _) _ _,AA,ad,?_⟩;rw[AD,ab.o,Ft,if_neg (fun h=>by rw[hv]at h;cases h.1)]
  ·have a3:k=Z a.A:=AA;subst a3;rw[AS]at hL
   refine pz ?_
   exact⟨Z ls-(j+1),AA,j+1,i3,l,rfl,AA,rfl,by simp,hO,AA,ad,by rw[AD,AU,HG.o];simpa using hL.o⟩
 ·have a4:j=Z ls:=AA;subst a4;rw[AS]at hL
  refine pz ?_
  rw[<-hL.o]
  first|exact⟨_,rfl,i3,rfl,ad.o,hK⟩|exact⟨_,rfl,i3,rfl,ad.o⟩
def Ku (l:List Tx)(t:Tx):List AV:=[sc (.bool (Ac t)),ic (if Ac t=true then Bl l t else (Ap t).2)]
def Ea (l:List Tx)(ts:List Tx):List AV:=ts.flatMap (Ku l)
theorem qU (l ts):Z (Ea l ts)=Z ts*2:=by
 induction ts with
 |nil=>rfl
 |cons a ts ih=>unfold Ea at*;rw[DK,AX,ih];simp[Ku];omega
theorem lN (l ts x):Ea l (ts++[x])=Ea l ts++Ku l x:=by simp[Ea]
theorem Q7 (l ido kp ids a)(hl:Z l<=10000000)(hL:VL l)(hV:VA a)(hn:Z a.A<=1000)(σ):
  AF Tryz.prog 144 [ag [ic kp,sl ids (Z a.A) (A2 a.A)],sl ido (Z l) (l.map encI)] σ fun r σ'=>∃id,r=ag [ic kp,sl id (Z a.A) (Ea l a.A)]/\AE σ σ':=by
 have a3:=Fp a.A;have az:AD (VA a):=hV;clear hV;refine Z9 33 [.cell 4 122] Tryz.func144 ?_
 refine zz ?_
 refine Ae (fun m s σ'=>∃(k i3:Nat) (xs:List AV),m=Z a.A-k/\k<=Z a.A/\s 1=sl ido (Z l) (l.map encI)/\s 4=ptr (σ.B+1) 0/\s 5=ptr (σ.B+2) 0/\s 12=sl ids (Z a.A) (A2 a.A)/\s 13=ic (Z a.A)/\s 14=ic k/\AE σ σ'/\σ.B+2<σ'.B/\σ'.C (σ.B+1)=[ic 0,nilS]/\σ'.C (σ.B+2)=[ic kp,sl i3 k xs]/\Own σ σ' i3 k/\Z xs=k*2/\AD (xs=Ea l (a.A.take k))) (Z a.A)
  ⟨0,1,[],AA,AA,by simp[upd,AM],AG,AG,AG,AG,rfl,?_,?_,?_,?_,Own.nil _ _,by simp,by simp[AD,Ea]⟩ ?_
 ·exact ((((AE.refl σ).new _).new _).new _).put AA _
 ·simp only[Ab,Aa];omega
 ·rw[Aj AA,Ah AK,Bg (by rw[Aa];omega) (by rw[Aa];omega)]
 ·rw[show σ.B+2=σ.B+1+1 by omega,Ak]
 rintro m s σ' ⟨k,i3,xs,rfl,hk,h1,h4,h5,a7,a6,a5,hK,a4,ax,aw,hO,au,hX⟩;have a0:=hK.B;by_cases av:k<Z a.A
 ·have ab:=AJ av;have aj:=az.o a.A[k] (AT av);obtain⟨r2,ae⟩:=Gu ab;generalize a.A[k]=w at ae ab aj;have ad:AD (Ea l (a.A.take (k+1))=xs++Ku l w):=by
   rw[AD,AU,ab,BJ,lN,<-hX.o]
  clear ab;have ai:=Rt aj;cases hv:Ac w with
  |true=>
   rw[hv]at ai;rw[ai]at ae;have hP:=fun σ=>Q8 l ido w hl hL aj hv σ;have ah:AD (Ku l w=[sc (.bool true),ic (Bl l w)]):=by simp[AD,Ku,hv]
   generalize (Ap w).2=w2 at ae hP
   refine qb ?_;intro yd yb;refine Xi (hP _) ?_;rintro _ _ ⟨rfl,rfl⟩;refine qm ?_;intro yd yb
   have am:AE σ (((σ'.new [sc (.bool false),ic 0]).put σ'.B [sc (.bool true),ic w2]).put σ'.B [sc (.bool true),ic (Bl l w)]):=((hK.new _).put hK.B _).put hK.B _;refine Bn (by first|exact E0) am (Own.put (Own.put (Own.new hO _) _ _) _ _) (by decide) (by rfl) au (by rfl) (by rfl) (by decide) AA AA ?_;intro idn σn ak an ap aa ao af;simp only[Ab,Aa]at aa;refine Z3 ?_
   refine pz ?_
   refine⟨Z a.A-(k+1),AA,k+1,idn,_,rfl,AA,by simp,an.put AA _,AA,rfl,Own.put ak _ _,by simp;omega,?_⟩;rw[AD,ad.o,ah.o]
  |false=>
   rw[hv]at ai;rw[ai]at ae;have ah:AD (Ku l w=[sc (.bool false),ic (Ap w).2]):=by simp[AD,Ku,hv]
   generalize (Ap w).2=w2 at ae ah
   refine qm ?_;intro yd yb
   have am:AE σ ((σ'.new [sc (.bool false),ic 0]).put σ'.B [sc (.bool false),ic w2]):=(hK.new _).put hK.B _;refine Bn (by first|exact E0) am (Own.put (Own.new hO _) _ _) (by decide) (by rfl) au (by rfl) (by rfl) (by decide) AA AA ?_;intro idn σn ak an ap aa ao af;simp only[Ab,Aa]at aa;refine Z3 ?_
   refine pz ?_
   refine⟨Z a.A-(k+1),AA,k+1,idn,_,rfl,AA,by simp,an.put AA _,AA,rfl,Own.put ak _ _,by simp;omega,?_⟩;rw[AD,ad.o,ah.o]
 ·have ay:k=Z a.A:=AA;subst ay;rw[AS]at hX
  refine pz ?_
  exact⟨_,rfl,i3,by rw[hX.o],hK.put AA _⟩
theorem Uj (N x c)(hc:PI N x c)(ho:x.o=true->x.A=[])(hx:x.fits)(hV:∀a∈Af x,VA a)(σ):AF Tryz.prog 96 [ag c] σ fun r σ'=>∃id,r=sl id (Z (Ba x)) ((Ba x).map encI)/\VL (Ba x)/\AE σ σ':=by
 have hA:=Ni N x c hc ho (by have:=hx.1;omega);have ab:∀a∈Af x,Z a.A<=1000:=by
  intro a ha;unfold Af at ha;rcases AW.1 ha with h|h
  ·split at h
   ·cases h
   ·simp at h;subst h;exact hx.2.1
  ·exact hx.2.2 a h
 have ac:=hx.atoms;have aa:=fun cs ida hE σ=>Sf N (Af x) cs ida hE hV ac ab σ;obtain⟨hm,ih,id,b,hb,rfl⟩:=hc;unfold Ba;generalize G7 [] ((Af x).flatMap (·.A))=lo at aa;refine Z9 6 [.tmp 2] Tryz.func96 ?_
 repeat' first|refine Z1 ?_|refine Z8 fun yd yb=>?_|refine Z4 ?_;clear yb yd|(refine Z5 ?_;first|(refine Xi (hA _) ?_;rintro _ _ ⟨ida,cs,rfl,hE,af⟩)|(refine Xi (aa _ _ (by assumption) _) ?_;rintro _ _ ⟨id2,rfl,ad,ae⟩))|refine Z3 ?_|exact Zt|apply yb.o;clear yb yd
 exact⟨_,rfl,id2,rfl,Xs⟩
end Go.Proofs.YtmoeoppbmhfbpabGreatDoorI
