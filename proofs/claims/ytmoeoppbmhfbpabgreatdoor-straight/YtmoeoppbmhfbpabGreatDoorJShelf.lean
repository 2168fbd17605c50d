import Derived.Shelf.Strconv.Itoa3
import Derived.Test.YtmoeoppbmhfbpabGreatDoorProg
import Derived.Test.YtmoeoppbmhfbpabGreatDoorJAbsWp
import Derived.Test.YtmoeoppbmhfbpabGreatDoorJProgR
set_option maxHeartbeats 16000000
set_option maxRecDepth 100000
set_option linter.all false
namespace Go.Proofs
open Go.Shelf
def Tryz.laysM171_ren:Go.Shelf.Ren:=⟨fun|171=>88|243=>143|246=>191|283=>228|284=>229|285=>230|286=>231|129=>259|317=>258|318=>260|319=>261|320=>262|337=>267|338=>268|n=>n,fun|3=>3|9=>9|2=>2|4=>4|171=>276|0=>0|53=>277|37=>87|5=>5|173=>280|212=>298|51=>299|20=>20|213=>300|46=>301|232=>306|233=>307|n=>n,fun|17=>0|18=>1|19=>2|n=>n⟩
theorem Tryz.laysM171:Go.Proofs.LaysM.n171 Tryz.prog Tryz.laysM171_ren:={
 mixed:=by kernel_rfl
 f129:=Tryz.func259.trans (congrArg some (by kernel_rfl))
 f171:=Tryz.func88.trans (congrArg some (by kernel_rfl))
 f243:=Tryz.func143.trans (congrArg some (by kernel_rfl))
 f246:=Tryz.func191.trans (congrArg some (by kernel_rfl))
 f283:=Tryz.func228.trans (congrArg some (by kernel_rfl))
 f284:=Tryz.func229.trans (congrArg some (by kernel_rfl))
 f285:=Tryz.func230.trans (congrArg some (by kernel_rfl))
 f286:=Tryz.func231.trans (congrArg some (by kernel_rfl))
 f317:=Tryz.func258.trans (congrArg some (by kernel_rfl))
 f318:=Tryz.func260.trans (congrArg some (by kernel_rfl))
 f319:=Tryz.func261.trans (congrArg some (by kernel_rfl))
 f320:=Tryz.func262.trans (congrArg some (by kernel_rfl))
 f337:=Tryz.func267.trans (congrArg some (by kernel_rfl))
 f338:=Tryz.func268.trans (congrArg some (by kernel_rfl))
 t0:=Tryz.underlying0
 a0:=Tryz.isAgg0
 z0:=Tryz.sizeOf0
 v0:=Tryz.zeroValue0
 t2:=Tryz.underlying2
 a2:=Tryz.isAgg2
 z2:=Tryz.sizeOf2
 v2:=Tryz.zeroValue2
 t3:=Tryz.underlying3
 a3:=Tryz.isAgg3
 z3:=Tryz.sizeOf3
 v3:=Tryz.zeroValue3
 t4:=Tryz.underlying4
 a4:=Tryz.isAgg4
 z4:=Tryz.sizeOf4
 v4:=Tryz.zeroValue4
 t5:=Tryz.underlying5
 a5:=Tryz.isAgg5
 z5:=Tryz.sizeOf5
 v5:=Tryz.zeroValue5
 t9:=Tryz.underlying9
 a9:=Tryz.isAgg9
 z9:=Tryz.sizeOf9
 v9:=Tryz.zeroValue9
 t20:=Tryz.underlying20
 a20:=Tryz.isAgg20
 z20:=Tryz.sizeOf20
 v20:=Tryz.zeroValue20
 t37:=Tryz.underlying87
 a37:=Tryz.isAgg87
 z37:=Tryz.sizeOf87
 v37:=Tryz.zeroValue87
 t46:=Tryz.underlying301
 a46:=Tryz.isAgg301
 z46:=Tryz.sizeOf301
 v46:=Tryz.zeroValue301
 t51:=Tryz.underlying299
 a51:=Tryz.isAgg299
 z51:=Tryz.sizeOf299
 v51:=Tryz.zeroValue299
 t53:=Tryz.underlying277
 a53:=Tryz.isAgg277
 z53:=Tryz.sizeOf277
 v53:=Tryz.zeroValue277
 t171:=Tryz.underlying276
 a171:=Tryz.isAgg276
 z171:=Tryz.sizeOf276
 v171:=Tryz.zeroValue276
 t173:=Tryz.underlying280
 a173:=Tryz.isAgg280
 z173:=Tryz.sizeOf280
 v173:=Tryz.zeroValue280
 t212:=Tryz.underlying298
 a212:=Tryz.isAgg298
 z212:=Tryz.sizeOf298
 v212:=Tryz.zeroValue298
 t213:=Tryz.underlying300
 a213:=Tryz.isAgg300
 z213:=Tryz.sizeOf300
 t232:=Tryz.underlying306
 a232:=Tryz.isAgg306
 z232:=Tryz.sizeOf306
 v232:=Tryz.zeroValue306
 t233:=Tryz.underlying307
 a233:=Tryz.isAgg307
 z233:=Tryz.sizeOf307
 v233:=Tryz.zeroValue307
 g17:=by kernel_rfl
 g18:=by kernel_rfl
 g19:=by kernel_rfl
 i0:=by kernel_rfl
 i2:=by kernel_rfl
 i3:=by kernel_rfl
 i4:=by kernel_rfl
 i5:=by kernel_rfl
 i9:=by kernel_rfl
 i20:=by kernel_rfl
 i37:=by kernel_rfl
 i46:=by kernel_rfl
 i51:=by kernel_rfl
 i53:=by kernel_rfl
 i171:=by kernel_rfl
 i173:=by kernel_rfl
 i212:=by kernel_rfl
 i232:=by kernel_rfl
 i233:=by kernel_rfl
 m17:=by kernel_rfl
 m18:=by kernel_rfl
 m19:=by kernel_rfl}
end Go.Proofs
namespace Go.Proofs.YtmoeoppbmhfbpabGreatDoorJ
open Go.Abs Go.Sort
open Go.RowKit (Below)
theorem Kt (w:World)(k:Nat)(os:Array Obj){b:Nat}(h:b<w.heap.size):(grow (w.drewN k) os).heap[b]?=w.heap[b]?:=by
 show (w.heap++os)[b]?=w.heap[b]?;exact Array.getElem?_append_left h
theorem nM (w:World)(k:Nat)(os:Array Obj){b o:Nat}(h:b<w.heap.size):(grow (w.drewN k) os).cell? ⟨b,o,none⟩=w.cell? ⟨b,o,none⟩:=by
 unfold World.cell?;rw[Kt w k os h]
theorem nH {G:Gh}{z:St}{w:World}(I:Abs.Inv G z w)(k:Nat)(os:Array Obj):Abs.Inv G z (grow (w.drewN k) os)/\Ext G z w G z (grow (w.drewN k) os):=by
 have E:Ext G z w G z (grow (w.drewN k) os):=⟨rfl,rfl,Abf _,fun _ _=>rfl,Abf _,fun _ _=>⟨Abf _,rfl,fun _=>⟨rfl,rfl⟩⟩,fun b off p=>⟨p,nM w k os (I.perlt _ _ p)⟩,fun o h=>⟨Abf _,fun _=>Kt w k os (I.blk_lt h)⟩⟩;have aa:w.heap.size<=(grow (w.drewN k) os).heap.size:=by
  show w.heap.size<=(w.heap++os).size;rw[Array.size_append];omega
 refine⟨⟨fun p hp=>?_,I.inj,fun k hk=>?_,I.linj,I.apart,fun b off p=>Abh (I.perlt _ _ p) aa,I.perlo,?_,Abg I.le aa,I.hyp⟩,E⟩
 ·obtain⟨h1,h2,h3⟩:=I.obj p hp;refine⟨h1,Abh h2 aa,fun ab=>?_⟩;obtain⟨⟨arr,e,hb,ha⟩,h4⟩:=h3 ab;exact⟨⟨arr,e,by rw[Kt _ _ _ (I.blk_lt hp)];exact hb,VR.all E ha⟩,h4⟩
 ·obtain⟨h1,⟨arr,e,hb,ha⟩,h3⟩:=I.lin k hk;exact⟨h1,⟨arr,e,by rw[Kt _ _ _ (I.cur_lt hk)];exact hb,ha⟩,h3⟩
 ·have hb:=I.below;have hl:=I.le;exact⟨hb.os,hb.tape,hb.output,Abg hb.size aa,fun j hj=>by rw[Kt _ _ _ Ad6];exact hb.block j hj⟩
theorem Lc (n:Int)(h0:0<=n)(h1:n<=9999)(z:St):ACalls Tryz.prog 88 [sc (.int .i64 n)] z fun x z'=>x=str (Lib.itoa n)/\z'=z:=by
 refine⟨Ad9,fun G w cargs I A=>?_⟩;obtain⟨v,rfl⟩:∃v,cargs=#[v]:=by
  have hl:=A.1
  match cargs,hl with
  |⟨[v]⟩,_=>exact⟨v,rfl⟩
 have hv:v= .int .i64 n:=(A.2 0 v _ rfl rfl).unfold;subst hv;refine (Any.strconv_Itoa Tryz.laysM171 n Ad6 Ad6 w (I.hyp w I.below)).mono ?_;rintro e w' ⟨rfl,k,os,rfl⟩;obtain⟨I',E⟩:=nH I k os;exact⟨_,G,_,z,rfl,I',E,VR.sc _,rfl,rfl⟩
open Go.Abs
def DT (w:Tx):Prop:=Al w=true\/(Al w=false/\Lib.itoa (Az w).2=w/\0<=(Az w).2/\(Az w).2<=999)
theorem Zb {b:UInt8}{m:Nat}(h:b.toNat=m):UInt8.ofNat m=b:=by rw[<-h];exact UInt8.ofNat_toNat
theorem Ti {v d:Nat}(hv:1<=v)(hd:d<=9):Lib.decDigits (v*10+d)=Lib.decDigits v++[UInt8.ofNat (48+d)]:=by
 rw[Lib.decDigits,dif_neg Ad6,show (v*10+d) / 10=v by omega,show (v*10+d) % 10=d by omega]
theorem Yr {w:Tx}{m:Nat}(hv:Al w=false)(hw:w≠[])(hn:F8 w=(m:Int))(hm:m<=999)(hd:Lib.decDigits m=w):DT w:=by
 cases w with
 |nil=>exact absurd rfl hw
 |cons b r=>
  refine .inr ⟨hv,?_⟩;rw[Gr hv];dsimp only;rw[hn];exact⟨by rw[Lib.itoa_nonneg,hd],Ad6,Ad6⟩
theorem M9 (s w r:Tx)(h:Ca s= .got w r):DT w:=by
 cases s with
 |nil=>cases h
 |cons b q=>
  unfold Ca at h;dsimp only at h;split at h
  ·rename_i hl;cases h;exact .inl hl
  rename_i hl;have hl:Bl b.toNat=false:=by simpa using hl
  split at h
  ·rename_i h0;cases h;have ad:b.toNat=48:=by
    have:(b.toNat:Int)=48:=by simpa using h0
    omega
   exact Yr (m:=0) hl (by simp) (by simp[F8,ad]) Ad6 (by rw[Lib.decDigits_one Ad6,Zb ad])
  split at h
  ·rename_i h9;cases h;have hb:49<=b.toNat/\b.toNat<=57:=by simp[Fw]at h9;omega
   have aa:=(D4 A0 2 q).2;have ac:(As A0 2 q).1.length<=2:=by
    cases q with
    |nil=>simp[As]
    |cons c q=>
     unfold As;split
     ·cases q with
      |nil=>simp[As]
      |cons d q=>unfold As;split<;>simp[As]
     ·simp
   have ab:∀c:UInt8,A0 c.toNat=true->48<=c.toNat/\c.toNat<=57:=fun c hc=>by simp[A0]at hc;omega
   have d1:Lib.decDigits (b.toNat-48)=[b]:=by rw[Lib.decDigits_one Ad6,Zb (show b.toNat=48+(b.toNat-48)by omega)]
   generalize (As A0 2 q).1=ds at aa ac
   match ds,aa,ac with
   |[],_,_=>exact Yr (m:=b.toNat-48) hl (by simp) (by simp[F8];omega) Ad6 d1
   |[c],aa,_=>
    have hc:=ab c (aa c (by simp));have d2:Lib.decDigits ((b.toNat-48)*10+(c.toNat-48))=[b,c]:=by rw[Ti Ad6 Ad6,d1,Zb (show c.toNat=48+(c.toNat-48)by omega)];rfl
    exact Yr (m:=(b.toNat-48)*10+(c.toNat-48)) hl (by simp) (by simp[F8];omega) Ad6 d2
   |[c,d],aa,_=>
    have hc:=ab c (aa c (by simp));have hd:=ab d (aa d (by simp));have d2:Lib.decDigits ((b.toNat-48)*10+(c.toNat-48))=[b,c]:=by rw[Ti Ad6 Ad6,d1,Zb (show c.toNat=48+(c.toNat-48)by omega)];rfl
    have d3:Lib.decDigits (((b.toNat-48)*10+(c.toNat-48))*10+(d.toNat-48))=[b,c,d]:=by rw[Ti Ad6 Ad6,d2,Zb (show d.toNat=48+(d.toNat-48)by omega)];rfl
    exact Yr (m:=((b.toNat-48)*10+(c.toNat-48))*10+(d.toNat-48)) hl (by simp) (by simp[F8];omega) Ad6 d3
  ·cases h
def Cf (l:List Tx)(s:Tx):Int:=if s∈l then ((l.idxOf s:Nat):Int)else -1
def Gx (acc:List Tx)(t:Tx):List Tx:=if Al t=true/\t∉acc then acc++[t]else acc
def Is (acc:List Tx)(ts:List Tx):List Tx:=ts.foldl Gx acc
def Dw (x:RItem):List Tx:=Is [] ((Af x).flatMap (·.terms))
theorem bS (ts:List Tx):∀acc,(Is acc ts).length<=acc.length+ts.length:=by
 induction ts with
 |nil=>intro acc;simp[Is]
 |cons t ts ih=>
  intro acc;have:=ih (Gx acc t);have h2:(Gx acc t).length<=acc.length+1:=by unfold Gx;split<;>simp
  simp only[Is,Abr,Acf]at*
  omega
theorem mX (acc ts:List Tx)(t:Tx):Is acc (ts++[t])=Gx (Is acc ts) t:=by simp[Is]
def Qc (k:Int):UInt8:=UInt8.ofNat (IntKind.u8.wrap (IntKind.i64.wrap (65+Int.tmod k 26))).toNat
def W7 (l:List Tx)(t:Tx):Tx:=if Al t=true then [Qc (Cf l t)]else t
def wO (k:Nat):Tx:=if k=0 then [40]else [44]
def Jh (l:List Tx):Nat->List Tx->Tx
 |_,[]=>[]
 |k,t::ts=>wO k++W7 l t++Jh l (k+1) ts
theorem Uw (l:List Tx):∀(ts:List Tx) (k:Nat) (t:Tx),Jh l k (ts++[t])=Jh l k ts++(wO (k+ts.length)++W7 l t)
 |[],k,t=>by simp[Jh]
 |u::ts,k,t=>by
  rw[Ack,Jh,Uw l ts (k+1) t,Jh];simp only[Ab8,Acf];rw[show k+1+ts.length=k+(ts.length+1)by omega]
def Hp (l:List Tx)(a:Ai):Tx:=(if a.nt=true then [33]else [])++a.pred++Jh l 0 a.terms++[41]
def short (a:Ai):Prop:=a.pred.length<=1000/\a.terms.length<=1000/\∀t∈a.terms,t.length<=1000
theorem iW (l:List Tx)(t:Tx)(h:t.length<=1000):(W7 l t).length<=1000:=by unfold W7;split<;>simp[h]
theorem Q0 (l:List Tx):∀(ts:List Tx) (k:Nat),(∀t∈ts,t.length<=1000)->(Jh l k ts).length<=ts.length*1001
 |[],k,h=>by simp[Jh]
 |t::ts,k,h=>by
  have h1:=iW l t (h t (by simp));have h2:=Q0 l ts (k+1) fun u hu=>h u (by simp[hu]);have h3:(wO k).length=1:=by unfold wO;split<;>rfl
  simp only[Jh,Ab6,Acf];omega
def lR (j:Nat):Tx:=if j=0 then [58,45]else [44]
def G8 (l:List Tx):Nat->List Ai->Tx
 |_,[]=>[]
 |j,a::ls=>lR j++Hp l a++G8 l (j+1) ls
theorem Ux (l:List Tx):∀(ls:List Ai) (j:Nat) (a:Ai),G8 l j (ls++[a])=G8 l j ls++(lR (j+ls.length)++Hp l a)
 |[],j,a=>by simp[G8]
 |b::ls,j,a=>by
  rw[Ack,G8,Ux l ls (j+1) a,G8];simp only[Ab8,Acf];rw[show j+1+ls.length=j+(ls.length+1)by omega]
theorem Qz {l:List Tx}{a:Ai}(h:short a):(Hp l a).length<=1002003:=by
 obtain⟨h1,h2,h3⟩:=h;have h4:=Q0 l a.terms 0 h3;have h5:(if a.nt=true then ([33]:Tx)else []).length<=1:=by split<;>simp
 simp only[Hp,Ab6,Acx];omega
theorem tR (j:Nat):(lR j).length<=2:=by unfold lR;split<;>simp
def Cz (x:RItem):Tx:=if x.out=true then 63::x.head.pred++[46]else Hp (Dw x) x.head++G8 (Dw x) 0 x.body++[46]
def RItem.short (x:RItem):Prop:=Go.Proofs.YtmoeoppbmhfbpabGreatDoorJ.short x.head/\∀a∈x.body,Go.Proofs.YtmoeoppbmhfbpabGreatDoorJ.short a
theorem dS {x:RItem}(hx:x.fits):((Af x).flatMap (·.terms)).length<=1001*1000:=by
 have h1:=hx.atoms;have aa:∀a∈Af x,a.terms.length<=1000:=by
  intro a ha;unfold Af at ha;rcases Aco.1 ha with h|h
  ·split at h
   ·cases h
   ·simp at h;subst h;exact hx.2.1
  ·exact hx.2.2 a h
 generalize Af x=ls at h1 aa;have:(ls.flatMap (·.terms)).length<=ls.length*1000:=by
  clear h1;induction ls with
  |nil=>simp
  |cons a ls ih=>
   have h2:=ih fun b hb=>aa b (by simp[hb]);have h3:=aa a (by simp);simp only[Acz,Ab6,Acf];omega
 omega
theorem qW {x:RItem}(hx:x.fits):(Dw x).length<=10000000:=by
 have h1:=bS ((Af x).flatMap (·.terms)) [];have h2:=dS hx;unfold Dw;rw[Ace,Ab5]at h1;omega
def Fo (l:List RItem):Tx:=l.flatMap Cz
theorem Y6 {l:List Tx}:∀(ls:List Ai) (j:Nat),(∀a∈ls,short a)->(G8 l j ls).length<=ls.length*1002010
 |[],j,h=>by simp[G8]
 |a::ls,j,h=>by
  have h1:=Qz (l:=l) (h a (by simp));have h2:=Y6 (l:=l) ls (j+1) fun b hb=>h b (by simp[hb]);have h3:=tR j;simp only[G8,Ab6,Acf];omega
theorem Mk {x:RItem}(hx:x.fits)(hs:x.short):(Cz x).length<=1100000000:=by
 have h1:=Qz (l:=Dw x) hs.1;have h2:=Y6 (l:=Dw x) x.body 0 hs.2;have h3:=hx.1;have h4:=hs.1.1;unfold Cz;split
 ·simp;omega
 ·simp only[Ab6,Acx];omega
theorem lY {ts:List Tx}{t:Tx}(h:t∈ts):t.length<=(Br ts).length:=by
 induction ts with
 |nil=>cases h
 |cons u ts ih=>
  unfold Br at*
  simp only[Acz,Ab6,Acf];rcases Aci.1 h with rfl|h
  ·omega
  ·have:=ih h;omega
theorem U2 {ts:List Tx}{t:Tx}(h:t∈ts):t.length<=(Bf ts).length:=by
 cases ts with
 |nil=>cases h
 |cons u ts=>
  unfold Bf;simp only[Ab6];rcases Aci.1 h with rfl|h
  ·omega
  ·have:=lY h;omega
theorem Pb {a:Ai}(hw:a.terms.length<=3)(h:(Ay a).length<=1000):short a:=by
 unfold Ay at h;simp only[Ab6,Acf]at h;refine⟨Ad6,Ad6,fun t ht=>?_⟩;have:=U2 ht;omega
theorem Y9 {x:RItem}(hw:Dh x)(h:(Bh x).length<=1000):x.short:=by
 obtain⟨-,h2,h3⟩:=hw;unfold Bh at h;cases ho:x.out with
 |true=>
  rw[if_pos ho]at h;obtain⟨-,q1,q2⟩:=h2 ho;simp only[Acf]at h;exact⟨⟨Ad6,by simp[q1],by simp[q1]⟩,by simp[q2]⟩
 |false=>
  rw[if_neg (by rw[ho];simp)]at h;obtain⟨q1,-,q2,q3⟩:=h3 ho;unfold C5 at h;simp only[Ab6]at h;refine⟨Pb q1.2.2.1 Ad6,fun a ha=>?_⟩;have aa:x.body≠[]:=by intro e;rw[e]at ha;cases ha
  rw[if_neg aa]at h;simp only[Acf]at h;have hm:=U2 (List.mem_map_of_mem (f:=B9) ha);have hl:(Ay a).length<=(B9 a).length:=by unfold B9;simp
  exact Pb (q3 a ha).2.2.1 Ad6
theorem eT {l:List RItem}{x:RItem}(h:x∈l):(Bh x).length<=(Bp l).length:=by
 induction l with
 |nil=>cases h
 |cons y l ih=>
  unfold Bp at*
  simp only[Acz,Ab6];rcases Aci.1 h with rfl|h
  ·omega
  ·have:=ih h;omega
theorem Pk {s:Tx}{l:List RItem}{r:Tx}(hs:s.length<=1000)(h:Bj 16 s= .got l r):∀x∈l,x.short:=by
 obtain⟨h1,-,-,h4⟩:=Ii _ _ _ _ h;intro x hx;have:=eT hx;rw[<-h1]at this;exact Y9 (h4 x hx) Ad6
def encI (t:Tx):AV:=sc (.int .i64 (Az t).2)
theorem cE {l:List Tx}{k:Nat}(h:k<l.length):(l.map encI).drop k=sc (.int .i64 (Az l[k]).2)::(l.map encI).drop (k+1):=by
 rw[Ach (by simpa using h)];simp[encI]
def VL (l:List Tx):Prop:=∀t∈l,VT t/\Al t=true
theorem vP {t u:Tx}(ht:VT t)(hu:VT u)(vt:Al t=true)(vu:Al u=true)(h:(Az t).2=(Az u).2):t=u:=by
 have:=rJ ht hu vu;unfold Qd at this;rw[Ju ht,vt,h]at this;simpa using this.symm
theorem M5 (l:List Tx)(ids:Nat)(t:Tx)(hl:l.length<=10000000)(hL:VL l)(ht:VT t)(hv:Al t=true)(z:St):ACalls Tryz.prog 85 [sc (.int .i64 (Az t).2),sl ids l.length (l.map encI)] z fun x z'=>x=sc (.int .i64 (Cf l t))/\z'=z:=by
 have aa:∀u∈l,(Az u).2=(Az t).2->u=t:=fun u hu h=>vP (hL u hu).1 ht (hL u hu).2 hv h;generalize aj:(Az t).2=v at aa;have ao:Aec _:=aj;clear aj;refine Z9 19 [.tmp 4] Tryz.func85 ?_
 repeat' (first|refine Z1 ?_|(refine Z8 ?_;intro κ hκ)|(refine Z4 ?_;clear hκ κ)|(refine Z2 ?_ ?_<;>intro h ab<;>try exact Xp)|refine Z3 ?_|exact⟨⟩|(apply hκ.out;clear hκ κ))
 refine Ad (fun m s' z'=>∃i:Nat,m=l.length-i/\i<=l.length/\s' 0=sc (.int .i64 v)/\s' 7=sl ids l.length (l.map encI)/\s' 8=sc (.int .i64 l.length)/\s' 9=sc (.int .i64 i)/\z'=z/\Aec (∀a,a<i->l[a]?≠some t)) l.length
  ⟨0,Ad6,Ad6,rfl,rfl,rfl,rfl,rfl,fun a ha=>Ad6⟩ ?_
 rintro m s' z' ⟨i,rfl,hi,h0,h7,h8,h9,hz,ad⟩;subst hz;by_cases af:i<l.length
 ·have ai:=cE af;have HX:Aec (l[i]?=some l[i]):=List.getElem?_eq_getElem af;have ac:=aa l[i] (Ac2 af);generalize l[i]=w at ai HX ac;generalize ah:(Az w).2=vw at ai ac;have an:Aec _:=ah;have ap:Aec _:=ac;clear ah ac aa
  repeat' (first|refine Z1 ?_|(refine Z8 ?_;intro κ hκ)|(refine Z4 ?_;clear hκ κ)|(refine Z2 ?_ ?_<;>intro h ab<;>try exact Xp)|refine Z3 ?_|exact⟨⟩|(apply hκ.out;clear hκ κ))
  ·have hw:w=t:=ap.out (by simpa using h);have ae:t∈l:=by rw[<-hw];exact Abm HX.out
   exact⟨_,rfl,by rw[Cf,if_pos ae,Ov ad.out (by rw[HX.out,hw])]⟩
  ·have hw:w≠t:=by
    rintro rfl;have:vw=v:=by rw[<-an.out,<-ao.out]
    simp[this]at h
   refine⟨l.length-(i+1),Ad6,i+1,rfl,Ad6,by simp,?_⟩;intro a ha;by_cases am:a=i
   ·subst am;rw[HX.out];simpa using hw
   ·exact ad.out a Ad6
 ·have ak:i=l.length:=Ad6;subst ak;have hnm:=Sr ad.out;clear aa
  repeat' (first|refine Z1 ?_|(refine Z8 ?_;intro κ hκ)|(refine Z4 ?_;clear hκ κ)|(refine Z2 ?_ ?_<;>intro h ab<;>try exact Xp)|refine Z3 ?_|exact⟨⟩|(apply hκ.out;clear hκ κ))
  exact⟨_,rfl,by rw[Cf,if_neg hnm]⟩
theorem wG {l:List Tx}{t:Tx}(h:VL l)(ht:VT t):VL (Gx l t):=by
 unfold Gx;split
 ·rename_i hc;intro u hu;rcases Aco.1 hu with hu|hu
  ·exact h u hu
  ·simp at hu;subst hu;exact⟨ht,hc.1⟩
 ·exact h
theorem N8 (N:List Tx)(ls:List Ai)(cs:List AV)(ida:Nat)(hE:EL (PC N) ls cs)(hV:∀a∈ls,VA a)(hn:ls.length<=1001)(ba:∀a∈ls,a.terms.length<=1000)(z:St):
  ACalls Tryz.prog 150 [sl ida ls.length cs] z fun r z'=>∃id,r=sl id (Is [] (ls.flatMap (·.terms))).length ((Is [] (ls.flatMap (·.terms))).map encI)/\VL (Is [] (ls.flatMap (·.terms)))/\Keep z z':=by
 have bg:=EL.length Ud hE;refine Z9 39 [.tmp 2] Tryz.func150 ?_
 repeat' (first|refine Z1 ?_|(refine Z8 ?_;intro κ hκ)|(refine Z4 ?_;clear hκ κ)|(refine Z2 ?_ ?_<;>intro h af<;>try exact Xp)|(refine Z6 ?_;intro idn zn aj ak ae ab ad aa)|refine Z3 ?_|exact⟨⟩|(apply hκ.out;clear hκ κ))
 refine Ad (fun m s z'=>∃(j i3:Nat) (l:List Tx),m=ls.length-j/\j<=ls.length/\s 3=sl i3 l.length (l.map encI)/\s 9=sl ida ls.length cs/\s 10=sc (.int .i64 ls.length)/\s 11=sc (.int .i64 j)/\Keep z z'/\Own z z' i3 l.length/\l.length<=j*1000/\Aec (VL l)/\Aec (l=Is [] ((ls.take j).flatMap (·.terms)))) ls.length
  ⟨0,1,[],Ad6,Ad6,rfl,rfl,rfl,rfl,Keep.refl _,Own.nil _ _,by simp,(fun t ht=>by cases ht),by simp[Aec,Is]⟩ ?_
 rintro m s z' ⟨j,i3,l,rfl,hj,h3,h9,ay,ax,hK,hO,a4,ai,hL⟩;by_cases aw:j<ls.length
 ·have ac:=List.getElem?_eq_getElem aw;have a5:=ba ls[j] (Ac2 aw);have av:=hV ls[j] (Ac2 aw);obtain⟨ha,ia,r,hd⟩:=lN hE ac;generalize ls[j]=a at hd ac a5 ha av;have HG:Aec (ls[j]?=some a):=ac;have be:Aec (VA a):=av;clear ac av;have bf:=F4 a.terms;have az:=hK.nobj
  repeat' (first|refine Z1 ?_|(refine Z8 ?_;intro κ hκ)|(refine Z4 ?_;clear hκ κ)|(refine Z2 ?_ ?_<;>intro h af<;>try exact Xp)|(refine Z6 ?_;intro idn zn aj ak ae ab ad aa)|refine Z3 ?_|exact⟨⟩|(apply hκ.out;clear hκ κ))
  refine Ad (fun m s z'=>∃(k i3:Nat) (l:List Tx),m=a.terms.length-k/\k<=a.terms.length/\s 3=sl i3 l.length (l.map encI)/\s 9=sl ida ls.length cs/\s 10=sc (.int .i64 ls.length)/\s 11=sc (.int .i64 j)/\s 16=sl ia a.terms.length (Av a.terms)/\s 17=sc (.int .i64 a.terms.length)/\s 18=sc (.int .i64 k)/\Keep z z'/\Own z z' i3 l.length/\l.length<=j*1000+k/\Aec (VL l)/\Aec (l=Is [] ((ls.take j).flatMap (·.terms)++a.terms.take k))) a.terms.length
   ⟨0,i3,l,Ad6,Ad6,by simp[upd,h3],by simp[upd,h9],by simp[upd,ay],by simp[upd,ax],Ad8,rfl,rfl,(hK.new _).put hK.nobj _,Own.put (Own.new hO _) _ _,Ad6,ai,by simpa using hL⟩ ?_
  clear hK hO hL a4 ai h3 h9 ay ax az l;rintro m s z' ⟨k,i3,l,rfl,hk,h3,h9,ay,ax,bl,bi,bh,hK,hO,a4,ai,hL⟩;have az:=hK.nobj;by_cases am:k<a.terms.length
  ·have ac:=List.getElem?_eq_getElem am;have ap:=be.out a.terms[k] (Ac2 am);obtain⟨r2,an⟩:=Hs ac;generalize a.terms[k]=w at an ac ap;have ah:Aec (Is [] ((ls.take j).flatMap (·.terms)++a.terms.take (k+1))=Gx l w):=by
    rw[Aec,Abv,ac,Ac5,<-Ab8,mX,<-hL.out]
   have bd:Aec (VL (Gx l w)):=wG ai.out ap;clear ac;have au:=Ju ap;cases hv:Al w with
   |true=>
    rw[hv]at au;rw[au]at an;have hP:=fun z=>M5 l i3 w Ad6 ai.out ap hv z;generalize a0:(Az w).2=w2 at an hP;have bc:Aec _:=a0;clear a0
    repeat' (first|refine Z1 ?_|(refine Z8 ?_;intro κ hκ)|(refine Z4 ?_;clear hκ κ)|(refine Z2 ?_ ?_<;>intro h af<;>try exact Xp)|(refine Z6 ?_;intro idn zn aj ak ae ab ad aa)|(refine Z5 ?_;refine Xi (hP _) ?_;rintro _ _ ⟨rfl,rfl⟩)|refine Z3 ?_|exact⟨⟩|(apply hκ.out;clear hκ κ))
    ·have ao:Cf l w= -1:=by simpa using h
     have a6:w∉l:=fun hm=>by rw[Cf,if_pos hm]at ao;omega
     have bb:Keep z ((z'.new [sc (.bool false),sc (.int .i64 0)]).put z'.nobj [sc (.bool true),sc (.int .i64 w2)]):=(hK.new _).put hK.nobj _;refine Bn (by first|exact Oa) bb (Own.put (Own.new hO _) _ _) (by decide) (by rfl) (by simp) (by rfl) (by rfl) (by decide) Ad6 Ad6 ?_;intro idn zn aj ak ae ab ad aa;refine Z3 ?_
     repeat' (first|refine Z1 ?_|(refine Z8 ?_;intro κ hκ)|(refine Z4 ?_;clear hκ κ)|(refine Z2 ?_ ?_<;>intro h af<;>try exact Xp)|(refine Z6 ?_;intro idn zn aj ak ae ab ad aa)|refine Z3 ?_|exact⟨⟩|(apply hκ.out;clear hκ κ))
     have a3:Gx l w=l++[w]:=by rw[Gx,if_pos ⟨hv,a6⟩]
     refine⟨a.terms.length-(k+1),Ad6,k+1,idn,l++[w],rfl,Ad6,?_,by simp,by simpa using aj,by simp;omega,by rw[<-a3];exact bd,by rw[Aec,ah.out,a3]⟩;simp[encI,bc.out]
    ·have ao:Cf l w≠ -1:=by simpa using h
     have a9:w∈l:=by
      by_cases hm:w∈l
      ·exact hm
      ·rw[Cf,if_neg hm]at ao;exact absurd rfl ao
     refine⟨a.terms.length-(k+1),Ad6,k+1,i3,l,rfl,Ad6,rfl,by simp,(hK.new _).put hK.nobj _,Own.put (Own.new hO _) _ _,Ad6,ai,?_⟩;rw[Aec,ah.out,Gx,if_neg (fun h=>h.2 a9)]
   |false=>
    rw[hv]at au;rw[au]at an;generalize (Az w).2=w2 at an
    repeat' (first|refine Z1 ?_|(refine Z8 ?_;intro κ hκ)|(refine Z4 ?_;clear hκ κ)|(refine Z2 ?_ ?_<;>intro h af<;>try exact Xp)|(refine Z6 ?_;intro idn zn aj ak ae ab ad aa)|refine Z3 ?_|exact⟨⟩|(apply hκ.out;clear hκ κ))
    refine⟨a.terms.length-(k+1),Ad6,k+1,i3,l,rfl,Ad6,rfl,by simp,(hK.new _).put hK.nobj _,Own.put (Own.new hO _) _ _,Ad6,ai,?_⟩;rw[Aec,ah.out,Gx,if_neg (fun h=>by rw[hv]at h;cases h.1)]
  ·have a7:k=a.terms.length:=Ad6;subst a7;rw[Abt]at hL
   repeat' (first|refine Z1 ?_|(refine Z8 ?_;intro κ hκ)|(refine Z4 ?_;clear hκ κ)|(refine Z2 ?_ ?_<;>intro h af<;>try exact Xp)|(refine Z6 ?_;intro idn zn aj ak ae ab ad aa)|refine Z3 ?_|exact⟨⟩|(apply hκ.out;clear hκ κ))
   exact⟨ls.length-(j+1),Ad6,j+1,i3,l,rfl,Ad6,rfl,by simp,hO,Ad6,ai,by rw[Aec,Abv,HG.out];simpa using hL.out⟩
 ·have a8:j=ls.length:=Ad6;subst a8;rw[Abt]at hL
  repeat' (first|refine Z1 ?_|(refine Z8 ?_;intro κ hκ)|(refine Z4 ?_;clear hκ κ)|(refine Z2 ?_ ?_<;>intro h af<;>try exact Xp)|(refine Z6 ?_;intro idn zn aj ak ae ab ad aa)|refine Z3 ?_|exact⟨⟩|(apply hκ.out;clear hκ κ))
  rw[<-hL.out]
  first|exact⟨_,rfl,i3,rfl,ai.out,hK⟩|exact⟨_,rfl,i3,rfl,ai.out⟩
def I4 (l:List Tx)(t:Tx):List AV:=[sc (.bool (Al t)),sc (.int .i64 (if Al t=true then Cf l t else (Az t).2))]
def C8 (l:List Tx)(ts:List Tx):List AV:=ts.flatMap (I4 l)
theorem fP (l ts:List Tx):(C8 l ts).length=ts.length*2:=by
 induction ts with
 |nil=>rfl
 |cons a ts ih=>unfold C8 at*;rw[Acz,Ab6,ih];simp[I4];omega
theorem aY (l ts:List Tx)(x:Tx):C8 l (ts++[x])=C8 l ts++I4 l x:=by simp[C8]
theorem M4 (l:List Tx)(ido:Nat)(kp:Int)(ids:Nat)(a:Ai)(hl:l.length<=10000000)(hL:VL l)(hV:VA a)(hn:a.terms.length<=1000)(z:St):
  ACalls Tryz.prog 144 [ag [sc (.int .i64 kp),sl ids a.terms.length (Av a.terms)],sl ido l.length (l.map encI)] z fun r z'=>∃id,r=ag [sc (.int .i64 kp),sl id a.terms.length (C8 l a.terms)]/\Keep z z':=by
 have a3:=F4 a.terms;have az:Aec (VA a):=hV;clear hV;refine Z9 33 [.cell 4 122] Tryz.func144 ?_
 repeat' (first|refine Z1 ?_|(refine Z8 ?_;intro κ hκ)|(refine Z4 ?_;clear hκ κ)|(refine Z2 ?_ ?_<;>intro h ae<;>try exact Xp)|(refine Z6 ?_;intro idn zn ah ai ad aa ac ab)|refine Z3 ?_|exact⟨⟩|(apply hκ.out;clear hκ κ))
 refine Ad (fun m s z'=>∃(k i3:Nat) (xs:List AV),m=a.terms.length-k/\k<=a.terms.length/\s 1=sl ido l.length (l.map encI)/\s 4=ptr (z.nobj+1) 0/\s 5=ptr (z.nobj+2) 0/\s 12=sl ids a.terms.length (Av a.terms)/\s 13=sc (.int .i64 a.terms.length)/\s 14=sc (.int .i64 k)/\Keep z z'/\z.nobj+2<z'.nobj/\z'.obj (z.nobj+1)=[sc (.int .i64 0),nilS]/\z'.obj (z.nobj+2)=[sc (.int .i64 kp),sl i3 k xs]/\Own z z' i3 k/\xs.length=k*2/\Aec (xs=C8 l (a.terms.take k))) a.terms.length
  ⟨0,1,[],Ad6,Ad6,by simp[upd,initS],Ad8,Ad8,Ad8,Ad8,rfl,?_,?_,?_,?_,Own.nil _ _,by simp,by simp[Aec,C8]⟩ ?_
 ·exact ((((Keep.refl z).new _).new _).new _).put Ad6 _
 ·simp only[Ab,Aa];omega
 ·rw[Aj Ad6,Ae Aea,Bu (by rw[Aa];omega) (by rw[Aa];omega)]
 ·rw[show z.nobj+2=z.nobj+1+1 by omega,Ak]
 rintro m s z' ⟨k,i3,xs,rfl,hk,h1,h4,h5,a7,a6,a5,hK,a4,ax,aw,hO,au,hX⟩;have a0:=hK.nobj;by_cases av:k<a.terms.length
 ·have af:=List.getElem?_eq_getElem av;have ao:=az.out a.terms[k] (Ac2 av);obtain⟨r2,ak⟩:=Hs af;generalize a.terms[k]=w at ak af ao;have aj:Aec (C8 l (a.terms.take (k+1))=xs++I4 l w):=by
   rw[Aec,Abv,af,Ac5,aY,<-hX.out]
  clear af;have an:=Ju ao;cases hv:Al w with
  |true=>
   rw[hv]at an;rw[an]at ak;have hP:=fun z=>M5 l ido w hl hL ao hv z;have am:Aec (I4 l w=[sc (.bool true),sc (.int .i64 (Cf l w))]):=by simp[Aec,I4,hv]
   generalize (Az w).2=w2 at ak hP
   repeat' (first|refine Z1 ?_|(refine Z8 ?_;intro κ hκ)|(refine Z4 ?_;clear hκ κ)|(refine Z2 ?_ ?_<;>intro h ae<;>try exact Xp)|(refine Z6 ?_;intro idn zn ah ai ad aa ac ab)|(refine Z5 ?_;refine Xi (hP _) ?_;rintro _ _ ⟨rfl,rfl⟩)|refine Z3 ?_|exact⟨⟩|(apply hκ.out;clear hκ κ))
   have ap:Keep z (((z'.new [sc (.bool false),sc (.int .i64 0)]).put z'.nobj [sc (.bool true),sc (.int .i64 w2)]).put z'.nobj [sc (.bool true),sc (.int .i64 (Cf l w))]):=((hK.new _).put hK.nobj _).put hK.nobj _;refine Bn (by first|exact Ee) ap (Own.put (Own.put (Own.new hO _) _ _) _ _) (by decide) (by rfl) au (by rfl) (by rfl) (by decide) Ad6 Ad6 ?_;intro idn zn ah ai ad aa ac ab;simp only[Ab,Aa]at aa;refine Z3 ?_
   repeat' (first|refine Z1 ?_|(refine Z8 ?_;intro κ hκ)|(refine Z4 ?_;clear hκ κ)|(refine Z2 ?_ ?_<;>intro h ae<;>try exact Xp)|(refine Z6 ?_;intro idn zn ah ai ad aa ac ab)|refine Z3 ?_|exact⟨⟩|(apply hκ.out;clear hκ κ))
   refine⟨a.terms.length-(k+1),Ad6,k+1,idn,_,rfl,Ad6,by simp,ai.put Ad6 _,Ad6,rfl,Own.put ah _ _,by simp;omega,?_⟩;rw[Aec,aj.out,am.out]
  |false=>
   rw[hv]at an;rw[an]at ak;have am:Aec (I4 l w=[sc (.bool false),sc (.int .i64 (Az w).2)]):=by simp[Aec,I4,hv]
   generalize (Az w).2=w2 at ak am
   repeat' (first|refine Z1 ?_|(refine Z8 ?_;intro κ hκ)|(refine Z4 ?_;clear hκ κ)|(refine Z2 ?_ ?_<;>intro h ae<;>try exact Xp)|(refine Z6 ?_;intro idn zn ah ai ad aa ac ab)|refine Z3 ?_|exact⟨⟩|(apply hκ.out;clear hκ κ))
   have ap:Keep z ((z'.new [sc (.bool false),sc (.int .i64 0)]).put z'.nobj [sc (.bool false),sc (.int .i64 w2)]):=(hK.new _).put hK.nobj _;refine Bn (by first|exact Ee) ap (Own.put (Own.new hO _) _ _) (by decide) (by rfl) au (by rfl) (by rfl) (by decide) Ad6 Ad6 ?_;intro idn zn ah ai ad aa ac ab;simp only[Ab,Aa]at aa;refine Z3 ?_
   repeat' (first|refine Z1 ?_|(refine Z8 ?_;intro κ hκ)|(refine Z4 ?_;clear hκ κ)|(refine Z2 ?_ ?_<;>intro h ae<;>try exact Xp)|(refine Z6 ?_;intro idn zn ah ai ad aa ac ab)|refine Z3 ?_|exact⟨⟩|(apply hκ.out;clear hκ κ))
   refine⟨a.terms.length-(k+1),Ad6,k+1,idn,_,rfl,Ad6,by simp,ai.put Ad6 _,Ad6,rfl,Own.put ah _ _,by simp;omega,?_⟩;rw[Aec,aj.out,am.out]
 ·have ay:k=a.terms.length:=Ad6;subst ay;rw[Abt]at hX
  repeat' (first|refine Z1 ?_|(refine Z8 ?_;intro κ hκ)|(refine Z4 ?_;clear hκ κ)|(refine Z2 ?_ ?_<;>intro h ae<;>try exact Xp)|(refine Z6 ?_;intro idn zn ah ai ad aa ac ab)|refine Z3 ?_|exact⟨⟩|(apply hκ.out;clear hκ κ))
  exact⟨_,rfl,i3,by rw[hX.out],hK.put Ad6 _⟩
theorem P7 (N:List Tx)(x:RItem)(c:List AV)(hc:PI N x c)(ho:x.out=true->x.body=[])(hx:x.fits)(hV:∀a∈Af x,VA a)(z:St):ACalls Tryz.prog 96 [ag c] z fun r z'=>∃id,r=sl id (Dw x).length ((Dw x).map encI)/\VL (Dw x)/\Keep z z':=by
 have hA:=Ih N x c hc ho (by have:=hx.1;omega);have ab:∀a∈Af x,a.terms.length<=1000:=by
  intro a ha;unfold Af at ha;rcases Aco.1 ha with h|h
  ·split at h
   ·cases h
   ·simp at h;subst h;exact hx.2.1
  ·exact hx.2.2 a h
 have ad:=hx.atoms;have aa:=fun cs ida hE z=>N8 N (Af x) cs ida hE hV ad ab z;obtain⟨hm,ih,id,b,hb,rfl⟩:=hc;unfold Dw;generalize Is [] ((Af x).flatMap (·.terms))=lo at aa;refine Z9 6 [.tmp 2] Tryz.func96 ?_
 repeat' (first|refine Z1 ?_|(refine Z8 ?_;intro κ hκ)|(refine Z4 ?_;clear hκ κ)|(refine Z2 ?_ ?_<;>intro h ac<;>try exact Xp)|(refine Z5 ?_;first|(refine Xi (hA _) ?_;rintro _ _ ⟨ida,cs,rfl,hE,ah⟩)|(refine Xi (aa _ _ (by assumption) _) ?_;rintro _ _ ⟨id2,rfl,ae,af⟩))|refine Z3 ?_|exact⟨⟩|(apply hκ.out;clear hκ κ))
 exact⟨_,rfl,id2,rfl,Xs⟩
end Go.Proofs.YtmoeoppbmhfbpabGreatDoorJ
