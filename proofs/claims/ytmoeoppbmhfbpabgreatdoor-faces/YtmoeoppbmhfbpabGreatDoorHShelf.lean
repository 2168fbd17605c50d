import Derived.Shelf.Strconv.Itoa3
import Derived.Test.YtmoeoppbmhfbpabGreatDoorProg
import Derived.Test.YtmoeoppbmhfbpabGreatDoorHAbsWp
import Derived.Test.YtmoeoppbmhfbpabGreatDoorHProgR
set_option linter.all false
namespace Go.Proofs
set_option maxHeartbeats 16000000
open Go.Shelf
def Tryz.laysM171_ren:Go.Shelf.Ren:=⟨fun|171=>88|243=>143|246=>191|283=>228|284=>229|285=>230|286=>231|129=>259|317=>258|318=>260|319=>261|320=>262|337=>267|338=>268|n=>n,fun|3=>3|9=>9|2=>2|4=>4|171=>276|0=>0|53=>277|37=>87|5=>5|173=>280|212=>298|51=>299|20=>20|213=>300|46=>301|232=>306|233=>307|n=>n,fun|17=>0|18=>1|19=>2|n=>n⟩
theorem Tryz.laysM171:Go.Proofs.LaysM.n171 Tryz.prog Tryz.laysM171_ren:={
 mixed:=by kernel_rfl
 f129:=Tryz.func259.trans (congrArg some (by kernel_rfl))
 f171:=Tryz.func88.trans (congrArg some (by kernel_rfl))
 f243:=Tryz.func143.trans (congrArg some (by kernel_rfl))
 f246:=Tryz.func191.trans (congrArg some (by kernel_rfl))
 f283:=Tryz.func228.trans (congrArg some (by kernel_rfl))
 f284:=Tryz.func229.trans (congrArg some (by kernel_rfl))
 f285:=Tryz.func230.trans (congrArg some (by kernel_rfl))
 f286:=Tryz.func231.trans (congrArg some (by kernel_rfl))
 f317:=Tryz.func258.trans (congrArg some (by kernel_rfl))
 f318:=Tryz.func260.trans (congrArg some (by kernel_rfl))
 f319:=Tryz.func261.trans (congrArg some (by kernel_rfl))
 f320:=Tryz.func262.trans (congrArg some (by kernel_rfl))
 f337:=Tryz.func267.trans (congrArg some (by kernel_rfl))
 f338:=Tryz.func268.trans (congrArg some (by kernel_rfl))
 t0:=Tryz.underlying0
 a0:=Tryz.isAgg0
 z0:=Tryz.sizeOf0
 v0:=Tryz.zeroValue0
 t2:=Tryz.underlying2
 a2:=Tryz.isAgg2
 z2:=Tryz.sizeOf2
 v2:=Tryz.zeroValue2
 t3:=Tryz.underlying3
 a3:=Tryz.isAgg3
 z3:=Tryz.sizeOf3
 v3:=Tryz.zeroValue3
 t4:=Tryz.underlying4
 a4:=Tryz.isAgg4
 z4:=Tryz.sizeOf4
 v4:=Tryz.zeroValue4
 t5:=Tryz.underlying5
 a5:=Tryz.isAgg5
 z5:=Tryz.sizeOf5
 v5:=Tryz.zeroValue5
 t9:=Tryz.underlying9
 a9:=Tryz.isAgg9
 z9:=Tryz.sizeOf9
 v9:=Tryz.zeroValue9
 t20:=Tryz.underlying20
 a20:=Tryz.isAgg20
 z20:=Tryz.sizeOf20
 v20:=Tryz.zeroValue20
 t37:=Tryz.underlying87
 a37:=Tryz.isAgg87
 z37:=Tryz.sizeOf87
 v37:=Tryz.zeroValue87
 t46:=Tryz.underlying301
 a46:=Tryz.isAgg301
 z46:=Tryz.sizeOf301
 v46:=Tryz.zeroValue301
 t51:=Tryz.underlying299
 a51:=Tryz.isAgg299
 z51:=Tryz.sizeOf299
 v51:=Tryz.zeroValue299
 t53:=Tryz.underlying277
 a53:=Tryz.isAgg277
 z53:=Tryz.sizeOf277
 v53:=Tryz.zeroValue277
 t171:=Tryz.underlying276
 a171:=Tryz.isAgg276
 z171:=Tryz.sizeOf276
 v171:=Tryz.zeroValue276
 t173:=Tryz.underlying280
 a173:=Tryz.isAgg280
 z173:=Tryz.sizeOf280
 v173:=Tryz.zeroValue280
 t212:=Tryz.underlying298
 a212:=Tryz.isAgg298
 z212:=Tryz.sizeOf298
 v212:=Tryz.zeroValue298
 t213:=Tryz.underlying300
 a213:=Tryz.isAgg300
 z213:=Tryz.sizeOf300
 t232:=Tryz.underlying306
 a232:=Tryz.isAgg306
 z232:=Tryz.sizeOf306
 v232:=Tryz.zeroValue306
 t233:=Tryz.underlying307
 a233:=Tryz.isAgg307
 z233:=Tryz.sizeOf307
 v233:=Tryz.zeroValue307
 g17:=by kernel_rfl
 g18:=by kernel_rfl
 g19:=by kernel_rfl
 i0:=by kernel_rfl
 i2:=by kernel_rfl
 i3:=by kernel_rfl
 i4:=by kernel_rfl
 i5:=by kernel_rfl
 i9:=by kernel_rfl
 i20:=by kernel_rfl
 i37:=by kernel_rfl
 i46:=by kernel_rfl
 i51:=by kernel_rfl
 i53:=by kernel_rfl
 i171:=by kernel_rfl
 i173:=by kernel_rfl
 i212:=by kernel_rfl
 i232:=by kernel_rfl
 i233:=by kernel_rfl
 m17:=by kernel_rfl
 m18:=by kernel_rfl
 m19:=by kernel_rfl}
end Go.Proofs
namespace Go.Proofs.YtmoeoppbmhfbpabGreatDoorH
open Go.Abs Go.Sort
open Go.RowKit (Below)
theorem Ko (w:World)(k:Nat)(os:Array Obj){b:Nat}(h:b<w.heap.size):(grow (w.drewN k) os).heap[b]?=w.heap[b]?:=by
 show (w.heap++os)[b]?=w.heap[b]?;exact Array.getElem?_append_left h
theorem nM (w:World)(k:Nat)(os:Array Obj){b o:Nat}(h:b<w.heap.size):(grow (w.drewN k) os).cell? ⟨b,o,none⟩=w.cell? ⟨b,o,none⟩:=by
 unfold World.cell?;rw[Ko w k os h]
theorem nJ {G:Gh}{z:St}{w:World}(I:Abs.Inv G z w)(k:Nat)(os:Array Obj):Abs.Inv G z (grow (w.drewN k) os)/\Ext G z w G z (grow (w.drewN k) os):=by
 have E:Ext G z w G z (grow (w.drewN k) os):=⟨rfl,rfl,Abb _,fun _ _=>rfl,Abb _,fun _ _=>⟨Abb _,rfl,fun _=>⟨rfl,rfl⟩⟩,fun b off p=>⟨p,nM w k os (I.perlt _ _ p)⟩,fun o h=>⟨Abb _,fun _=>Ko w k os (I.blk_lt h)⟩⟩;have aa:w.heap.size<=(grow (w.drewN k) os).heap.size:=by
  show w.heap.size<=(w.heap++os).size;rw[Array.size_append];omega
 refine⟨⟨fun p hp=>?_,I.inj,fun k hk=>?_,I.linj,I.apart,fun b off p=>Abd (I.perlt _ _ p) aa,I.perlo,?_,Abc I.le aa,I.hyp⟩,E⟩
 ·obtain⟨h1,h2,h3⟩:=I.obj p hp;refine⟨h1,Abd h2 aa,fun hne=>?_⟩;obtain⟨⟨arr,e,hb,ha⟩,h4⟩:=h3 hne;exact⟨⟨arr,e,by rw[Ko _ _ _ (I.blk_lt hp)];exact hb,VR.all E ha⟩,h4⟩
 ·obtain⟨h1,⟨arr,e,hb,ha⟩,h3⟩:=I.lin k hk;exact⟨h1,⟨arr,e,by rw[Ko _ _ _ (I.cur_lt hk)];exact hb,ha⟩,h3⟩
 ·have hb:=I.below;have hl:=I.le;exact⟨hb.os,hb.tape,hb.output,Abc hb.size aa,fun j hj=>by rw[Ko _ _ _ Ad2];exact hb.block j hj⟩
theorem Wk (n:Int)(h0:0<=n)(h1:n<=9999)(z:St):ACalls Tryz.prog 88 [sc (.int .i64 n)] z fun x z'=>x=str (Lib.itoa n)/\z'=z:=by
 refine⟨Ad5,fun G w cargs I A=>?_⟩;obtain⟨v,rfl⟩:∃v,cargs=#[v]:=by
  have hl:=A.1
  match cargs,hl with
  |⟨[v]⟩,_=>exact⟨v,rfl⟩
 have hv:v= .int .i64 n:=(A.2 0 v _ rfl rfl).unfold;subst hv;refine (Any.strconv_Itoa Tryz.laysM171 n Ad2 Ad2 w (I.hyp w I.below)).mono ?_;rintro e w' ⟨rfl,k,os,rfl⟩;obtain⟨I',E⟩:=nJ I k os;exact⟨_,G,_,z,rfl,I',E,VR.sc _,rfl,rfl⟩
open Go.Abs
def DT (w:Tx):Prop:=Af w=true\/(Af w=false/\Lib.itoa (Ap w).2=w/\0<=(Ap w).2/\(Ap w).2<=999)
theorem Ze {b:UInt8}{m:Nat}(h:b.toNat=m):UInt8.ofNat m=b:=by rw[<-h];exact UInt8.ofNat_toNat
theorem To {v d:Nat}(hv:1<=v)(hd:d<=9):Lib.decDigits (v*10+d)=Lib.decDigits v++[UInt8.ofNat (48+d)]:=by
 rw[Lib.decDigits,dif_neg Ad2,show (v*10+d) / 10=v by omega,show (v*10+d) % 10=d by omega]
theorem Yq {w:Tx}{m:Nat}(hv:Af w=false)(hw:w≠[])(hn:G1 w=(m:Int))(hm:m<=999)(hd:Lib.decDigits m=w):DT w:=by
 cases w with
 |nil=>exact absurd rfl hw
 |cons b r=>
  refine .inr ⟨hv,?_⟩;rw[Kr hv];dsimp only;rw[hn];exact⟨by rw[Lib.itoa_nonneg,hd],Ad2,Ad2⟩
theorem bS (s w r:Tx)(h:Cf s= .got w r):DT w:=by
 cases s with
 |nil=>cases h
 |cons b q=>
  unfold Cf at h;dsimp only at h;split at h
  ·rename_i hl;cases h;exact .inl hl
  rename_i hl;have hl:A3 b.toNat=false:=by simpa using hl
  split at h
  ·rename_i h0;cases h;have ad:b.toNat=48:=by
    have:(b.toNat:Int)=48:=by simpa using h0
    omega
   exact Yq (m:=0) hl (by simp) (by simp[G1,ad]) Ad2 (by rw[Lib.decDigits_one Ad2,Ze ad])
  split at h
  ·rename_i h9;cases h;have hb:49<=b.toNat/\b.toNat<=57:=by simp[Fz]at h9;omega
   have aa:=(Dp Ax 2 q).2;have ac:(Av Ax 2 q).1.length<=2:=by
    cases q with
    |nil=>simp[Av]
    |cons c q=>
     unfold Av;split
     ·cases q with
      |nil=>simp[Av]
      |cons d q=>unfold Av;split<;>simp[Av]
     ·simp
   have ab:∀c:UInt8,Ax c.toNat=true->48<=c.toNat/\c.toNat<=57:=fun c hc=>by simp[Ax]at hc;omega
   have d1:Lib.decDigits (b.toNat-48)=[b]:=by rw[Lib.decDigits_one Ad2,Ze (show b.toNat=48+(b.toNat-48)by omega)]
   generalize (Av Ax 2 q).1=ds at aa ac
   match ds,aa,ac with
   |[],_,_=>exact Yq (m:=b.toNat-48) hl (by simp) (by simp[G1];omega) Ad2 d1
   |[c],aa,_=>
    have hc:=ab c (aa c (by simp));have d2:Lib.decDigits ((b.toNat-48)*10+(c.toNat-48))=[b,c]:=by rw[To Ad2 Ad2,d1,Ze (show c.toNat=48+(c.toNat-48)by omega)];rfl
    exact Yq (m:=(b.toNat-48)*10+(c.toNat-48)) hl (by simp) (by simp[G1];omega) Ad2 d2
   |[c,d],aa,_=>
    have hc:=ab c (aa c (by simp));have hd:=ab d (aa d (by simp));have d2:Lib.decDigits ((b.toNat-48)*10+(c.toNat-48))=[b,c]:=by rw[To Ad2 Ad2,d1,Ze (show c.toNat=48+(c.toNat-48)by omega)];rfl
    have d3:Lib.decDigits (((b.toNat-48)*10+(c.toNat-48))*10+(d.toNat-48))=[b,c,d]:=by rw[To Ad2 Ad2,d2,Ze (show d.toNat=48+(d.toNat-48)by omega)];rfl
    exact Yq (m:=((b.toNat-48)*10+(c.toNat-48))*10+(d.toNat-48)) hl (by simp) (by simp[G1];omega) Ad2 d3
  ·cases h
set_option maxRecDepth 100000
def Bs (l:List Tx)(s:Tx):Int:=if s∈l then ((l.idxOf s:Nat):Int)else -1
def Dd (acc:List Tx)(t:Tx):List Tx:=if Af t=true/\t∉acc then acc++[t]else acc
def Dc (acc:List Tx)(ts:List Tx):List Tx:=ts.foldl Dd acc
def Ba (x:RItem):List Tx:=Dc [] ((Ag x).flatMap (·.terms))
theorem Sv (ts:List Tx):∀acc,(Dc acc ts).length<=acc.length+ts.length:=by
 induction ts with
 |nil=>intro acc;simp[Dc]
 |cons t ts ih=>
  intro acc;have:=ih (Dd acc t);have h2:(Dd acc t).length<=acc.length+1:=by unfold Dd;split<;>simp
  simp only[Dc,Abm,Aca]at*
  omega
theorem mW (acc ts:List Tx)(t:Tx):Dc acc (ts++[t])=Dd (Dc acc ts) t:=by simp[Dc]
theorem Sx (acc ts us:List Tx):Dc acc (ts++us)=Dc (Dc acc ts) us:=by simp[Dc]
def Cl (k:Int):UInt8:=UInt8.ofNat (IntKind.u8.wrap (IntKind.i64.wrap (65+Int.tmod k 26))).toNat
def Gq (l:List Tx)(t:Tx):Tx:=if Af t=true then [Cl (Bs l t)]else t
def wY (k:Nat):Tx:=if k=0 then [40]else [44]
def I8 (l:List Tx):Nat->List Tx->Tx
 |_,[]=>[]
 |k,t::ts=>wY k++Gq l t++I8 l (k+1) ts
theorem Uy (l:List Tx):∀(ts:List Tx) (k:Nat) (t:Tx),I8 l k (ts++[t])=I8 l k ts++(wY (k+ts.length)++Gq l t)
 |[],k,t=>by simp[I8]
 |u::ts,k,t=>by
  rw[Acg,I8,Uy l ts (k+1) t,I8];simp only[Ab4,Aca];rw[show k+1+ts.length=k+(ts.length+1)by omega]
def Hc (l:List Tx)(a:RAtom):Tx:=(if a.nt=true then [33]else [])++a.pred++I8 l 0 a.terms++[41]
def short (a:RAtom):Prop:=a.pred.length<=1000/\a.terms.length<=1000/\∀t∈a.terms,t.length<=1000
theorem iQ (l:List Tx)(t:Tx)(h:t.length<=1000):(Gq l t).length<=1000:=by unfold Gq;split<;>simp[h]
theorem Q2 (l:List Tx):∀(ts:List Tx) (k:Nat),(∀t∈ts,t.length<=1000)->(I8 l k ts).length<=ts.length*1001
 |[],k,h=>by simp[I8]
 |t::ts,k,h=>by
  have h1:=iQ l t (h t (by simp));have h2:=Q2 l ts (k+1) fun u hu=>h u (by simp[hu]);have h3:(wY k).length=1:=by unfold wY;split<;>rfl
  simp only[I8,Ab2,Aca];omega
def lJ (j:Nat):Tx:=if j=0 then [58,45]else [44]
def Gw (l:List Tx):Nat->List RAtom->Tx
 |_,[]=>[]
 |j,a::ls=>lJ j++Hc l a++Gw l (j+1) ls
theorem Uz (l:List Tx):∀(ls:List RAtom) (j:Nat) (a:RAtom),Gw l j (ls++[a])=Gw l j ls++(lJ (j+ls.length)++Hc l a)
 |[],j,a=>by simp[Gw]
 |b::ls,j,a=>by
  rw[Acg,Gw,Uz l ls (j+1) a,Gw];simp only[Ab4,Aca];rw[show j+1+ls.length=j+(ls.length+1)by omega]
theorem Q1 {l:List Tx}{a:RAtom}(h:short a):(Hc l a).length<=1002003:=by
 obtain⟨h1,h2,h3⟩:=h;have h4:=Q2 l a.terms 0 h3;have h5:(if a.nt=true then ([33]:Tx)else []).length<=1:=by split<;>simp
 simp only[Hc,Ab2,Acu];omega
theorem uA (j:Nat):(lJ j).length<=2:=by unfold lJ;split<;>simp
def C6 (x:RItem):Tx:=if x.out=true then 63::x.head.pred++[46]else Hc (Ba x) x.head++Gw (Ba x) 0 x.body++[46]
def RItem.short (x:RItem):Prop:=Go.Proofs.YtmoeoppbmhfbpabGreatDoorH.short x.head/\∀a∈x.body,Go.Proofs.YtmoeoppbmhfbpabGreatDoorH.short a
theorem dS {x:RItem}(hx:x.fits):((Ag x).flatMap (·.terms)).length<=1001*1000:=by
 have h1:=hx.atoms;have aa:∀a∈Ag x,a.terms.length<=1000:=by
  intro a ha;unfold Ag at ha;rcases Ack.1 ha with h|h
  ·split at h
   ·cases h
   ·simp at h;subst h;exact hx.2.1
  ·exact hx.2.2 a h
 generalize Ag x=ls at h1 aa;have:(ls.flatMap (·.terms)).length<=ls.length*1000:=by
  clear h1;induction ls with
  |nil=>simp
  |cons a ls ih=>
   have h2:=ih fun b hb=>aa b (by simp[hb]);have h3:=aa a (by simp);simp only[Acv,Ab2,Aca];omega
 omega
theorem rH {x:RItem}(hx:x.fits):(Ba x).length<=10000000:=by
 have h1:=Sv ((Ag x).flatMap (·.terms)) [];have h2:=dS hx;unfold Ba;rw[Ab9,Ab1]at h1;omega
def B8 (l:List RItem):Tx:=l.flatMap C6
theorem Y3 {l:List Tx}:∀(ls:List RAtom) (j:Nat),(∀a∈ls,short a)->(Gw l j ls).length<=ls.length*1002010
 |[],j,h=>by simp[Gw]
 |a::ls,j,h=>by
  have h1:=Q1 (l:=l) (h a (by simp));have h2:=Y3 (l:=l) ls (j+1) fun b hb=>h b (by simp[hb]);have h3:=uA j;simp only[Gw,Ab2,Aca];omega
theorem Mw {x:RItem}(hx:x.fits)(hs:x.short):(C6 x).length<=1100000000:=by
 have h1:=Q1 (l:=Ba x) hs.1;have h2:=Y3 (l:=Ba x) x.body 0 hs.2;have h3:=hx.1;have h4:=hs.1.1;unfold C6;split
 ·simp;omega
 ·simp only[Ab2,Acu];omega
theorem lU {ts:List Tx}{t:Tx}(h:t∈ts):t.length<=(A8 ts).length:=by
 induction ts with
 |nil=>cases h
 |cons u ts ih=>
  unfold A8 at*
  simp only[Acv,Ab2,Aca];rcases Ace.1 h with rfl|h
  ·omega
  ·have:=ih h;omega
theorem U5 {ts:List Tx}{t:Tx}(h:t∈ts):t.length<=(A2 ts).length:=by
 cases ts with
 |nil=>cases h
 |cons u ts=>
  unfold A2;simp only[Ab2];rcases Ace.1 h with rfl|h
  ·omega
  ·have:=lU h;omega
theorem Pl {a:RAtom}(hw:a.terms.length<=3)(h:(A9 a).length<=1000):short a:=by
 unfold A9 at h;simp only[Ab2,Aca]at h;refine⟨Ad2,Ad2,fun t ht=>?_⟩;have:=U5 ht;omega
theorem Zb {x:RItem}(hw:Bv x)(h:(A0 x).length<=1000):x.short:=by
 obtain⟨-,h2,h3⟩:=hw;unfold A0 at h;cases ho:x.out with
 |true=>
  rw[if_pos ho]at h;obtain⟨-,q1,q2⟩:=h2 ho;simp only[Aca]at h;exact⟨⟨Ad2,by simp[q1],by simp[q1]⟩,by simp[q2]⟩
 |false=>
  rw[if_neg (by rw[ho];simp)]at h;obtain⟨q1,-,q2,q3⟩:=h3 ho;unfold Cw at h;simp only[Ab2]at h;refine⟨Pl q1.2.2.1 Ad2,fun a ha=>?_⟩;have hne:x.body≠[]:=by intro e;rw[e]at ha;cases ha
  rw[if_neg hne]at h;simp only[Aca]at h;have hm:=U5 (List.mem_map_of_mem (f:=Bg) ha);have hl:(A9 a).length<=(Bg a).length:=by unfold Bg;simp
  exact Pl (q3 a ha).2.2.1 Ad2
theorem eX {l:List RItem}{x:RItem}(h:x∈l):(A0 x).length<=(Bl l).length:=by
 induction l with
 |nil=>cases h
 |cons y l ih=>
  unfold Bl at*
  simp only[Acv,Ab2];rcases Ace.1 h with rfl|h
  ·omega
  ·have:=ih h;omega
theorem Pq {s:Tx}{l:List RItem}{r:Tx}(hs:s.length<=1000)(h:Bu 16 s= .got l r):∀x∈l,x.short:=by
 obtain⟨h1,-,-,h4⟩:=H8 _ _ _ _ h;intro x hx;have:=eX hx;rw[<-h1]at this;exact Zb (h4 x hx) Ad2
def Hg (s:Tx):Tx×Int:=if (Au s).1=0 then (B8 (Cj s),0)else ([],(Au s).1)
def encI (t:Tx):AV:=sc (.int .i64 (Ap t).2)
theorem cL {l:List Tx}{k:Nat}(h:k<l.length):(l.map encI).drop k=sc (.int .i64 (Ap l[k]).2)::(l.map encI).drop (k+1):=by
 rw[Acd (by simpa using h)];simp[encI]
def VL (l:List Tx):Prop:=∀t∈l,VT t/\Af t=true
theorem wE {t u:Tx}(ht:VT t)(hu:VT u)(vt:Af t=true)(vu:Af u=true)(h:(Ap t).2=(Ap u).2):t=u:=by
 have:=rY ht hu vu;unfold Mn at this;rw[Nw ht,vt,h]at this;simpa using this.symm
theorem Nk (l:List Tx)(ids:Nat)(t:Tx)(hl:l.length<=10000000)(hL:VL l)(ht:VT t)(hv:Af t=true)(z:St):ACalls Tryz.prog 85 [sc (.int .i64 (Ap t).2),sl ids l.length (l.map encI)] z fun x z'=>x=sc (.int .i64 (Bs l t))/\z'=z:=by
 have aa:∀u∈l,(Ap u).2=(Ap t).2->u=t:=fun u hu h=>wE (hL u hu).1 ht (hL u hu).2 hv h;generalize aj:(Ap t).2=v at aa;have ap:Ad8 _:=aj;clear aj;refine Z9 19 [.tmp 4] Tryz.func85 ?_
 repeat' (first|refine Z1 ?_|(refine Z8 ?_;intro κ hκ)|(refine Z4 ?_;clear hκ κ)|(refine Z2 ?_ ?_<;>intro h ab<;>try exact Xp)|refine Z3 ?_|exact⟨⟩|(apply hκ.out;clear hκ κ))
 refine Ad (fun m s' z'=>∃i:Nat,m=l.length-i/\i<=l.length/\s' 0=sc (.int .i64 v)/\s' 7=sl ids l.length (l.map encI)/\s' 8=sc (.int .i64 l.length)/\s' 9=sc (.int .i64 i)/\z'=z/\Ad8 (∀a,a<i->l[a]?≠some t)) l.length
  ⟨0,Ad2,Ad2,rfl,rfl,rfl,rfl,rfl,fun a ha=>Ad2⟩ ?_
 rintro m s' z' ⟨i,rfl,hi,h0,h7,h8,h9,hz,ad⟩;subst hz;by_cases af:i<l.length
 ·have ai:=cL af;have HX:Ad8 (l[i]?=some l[i]):=List.getElem?_eq_getElem af;have ac:=aa l[i] (Acz af);generalize l[i]=w at ai HX ac;generalize ah:(Ap w).2=vw at ai ac;have ao:Ad8 _:=ah;have ar:Ad8 _:=ac;clear ah ac aa
  repeat' (first|refine Z1 ?_|(refine Z8 ?_;intro κ hκ)|(refine Z4 ?_;clear hκ κ)|(refine Z2 ?_ ?_<;>intro h ab<;>try exact Xp)|refine Z3 ?_|exact⟨⟩|(apply hκ.out;clear hκ κ))
  ·have hw:w=t:=ar.out (by simpa using h);have ae:t∈l:=by rw[<-hw];exact Abh HX.out
   exact⟨_,rfl,by rw[Bs,if_pos ae,O4 ad.out (by rw[HX.out,hw])]⟩
  ·have hw:w≠t:=by
    rintro rfl;have:vw=v:=by rw[<-ao.out,<-ap.out]
    simp[this]at h
   refine⟨l.length-(i+1),Ad2,i+1,rfl,Ad2,by simp,?_⟩;intro a ha;by_cases an:a=i
   ·subst an;rw[HX.out];simpa using hw
   ·exact ad.out a Ad2
 ·have am:i=l.length:=Ad2;subst am;have ak:=S0 ad.out;clear aa
  repeat' (first|refine Z1 ?_|(refine Z8 ?_;intro κ hκ)|(refine Z4 ?_;clear hκ κ)|(refine Z2 ?_ ?_<;>intro h ab<;>try exact Xp)|refine Z3 ?_|exact⟨⟩|(apply hκ.out;clear hκ κ))
  exact⟨_,rfl,by rw[Bs,if_neg ak]⟩
theorem wU {l:List Tx}{t:Tx}(h:VL l)(ht:VT t):VL (Dd l t):=by
 unfold Dd;split
 ·rename_i hc;intro u hu;rcases Ack.1 hu with hu|hu
  ·exact h u hu
  ·simp at hu;subst hu;exact⟨ht,hc.1⟩
 ·exact h
theorem Of (N:List Tx)(ls:List RAtom)(cs:List AV)(ida:Nat)(hE:EL (PC N) ls cs)(hV:∀a∈ls,VA a)(hn:ls.length<=1001)(a9:∀a∈ls,a.terms.length<=1000)(z:St):
  ACalls Tryz.prog 150 [sl ida ls.length cs] z fun r z'=>∃id,r=sl id (Dc [] (ls.flatMap (·.terms))).length ((Dc [] (ls.flatMap (·.terms))).map encI)/\VL (Dc [] (ls.flatMap (·.terms)))/\Keep z z':=by
 have bf:=EL.length Yy hE;refine Z9 39 [.tmp 2] Tryz.func150 ?_
 repeat' (first|refine Z1 ?_|(refine Z8 ?_;intro κ hκ)|(refine Z4 ?_;clear hκ κ)|(refine Z2 ?_ ?_<;>intro h af<;>try exact Xp)|(refine Z6 ?_;intro idn zn aj ak ae ab ad aa)|refine Z3 ?_|exact⟨⟩|(apply hκ.out;clear hκ κ))
 refine Ad (fun m s z'=>∃(j i3:Nat) (l:List Tx),m=ls.length-j/\j<=ls.length/\s 3=sl i3 l.length (l.map encI)/\s 9=sl ida ls.length cs/\s 10=sc (.int .i64 ls.length)/\s 11=sc (.int .i64 j)/\Keep z z'/\Own z z' i3 l.length/\l.length<=j*1000/\Ad8 (VL l)/\Ad8 (l=Dc [] ((ls.take j).flatMap (·.terms)))) ls.length
  ⟨0,1,[],Ad2,Ad2,rfl,rfl,rfl,rfl,Keep.refl _,Own.nil _ _,by simp,(fun t ht=>by cases ht),by simp[Ad8,Dc]⟩ ?_
 rintro m s z' ⟨j,i3,l,rfl,hj,h3,h9,ax,aw,hK,hO,a3,ai,hL⟩;by_cases av:j<ls.length
 ·have ac:=List.getElem?_eq_getElem av;have a4:=a9 ls[j] (Acz av);have au:=hV ls[j] (Acz av);obtain⟨ha,ia,r,hd⟩:=tV hE ac;generalize ls[j]=a at hd ac a4 ha au;have HG:Ad8 (ls[j]?=some a):=ac;have bd:Ad8 (VA a):=au;clear ac au;have be:=Ea a.terms;have ay:=hK.nobj
  repeat' (first|refine Z1 ?_|(refine Z8 ?_;intro κ hκ)|(refine Z4 ?_;clear hκ κ)|(refine Z2 ?_ ?_<;>intro h af<;>try exact Xp)|(refine Z6 ?_;intro idn zn aj ak ae ab ad aa)|refine Z3 ?_|exact⟨⟩|(apply hκ.out;clear hκ κ))
  refine Ad (fun m s z'=>∃(k i3:Nat) (l:List Tx),m=a.terms.length-k/\k<=a.terms.length/\s 3=sl i3 l.length (l.map encI)/\s 9=sl ida ls.length cs/\s 10=sc (.int .i64 ls.length)/\s 11=sc (.int .i64 j)/\s 16=sl ia a.terms.length (Aw a.terms)/\s 17=sc (.int .i64 a.terms.length)/\s 18=sc (.int .i64 k)/\Keep z z'/\Own z z' i3 l.length/\l.length<=j*1000+k/\Ad8 (VL l)/\Ad8 (l=Dc [] ((ls.take j).flatMap (·.terms)++a.terms.take k))) a.terms.length
   ⟨0,i3,l,Ad2,Ad2,by simp[upd,h3],by simp[upd,h9],by simp[upd,ax],by simp[upd,aw],Ad4,rfl,rfl,(hK.new _).put hK.nobj _,Own.put (Own.new hO _) _ _,Ad2,ai,by simpa using hL⟩ ?_
  clear hK hO hL a3 ai h3 h9 ax aw ay l;rintro m s z' ⟨k,i3,l,rfl,hk,h3,h9,ax,aw,bi,bh,bg,hK,hO,a3,ai,hL⟩;have ay:=hK.nobj;by_cases am:k<a.terms.length
  ·have ac:=List.getElem?_eq_getElem am;have ap:=bd.out a.terms[k] (Acz am);obtain⟨r2,an⟩:=E5 ac;generalize a.terms[k]=w at an ac ap;have ah:Ad8 (Dc [] ((ls.take j).flatMap (·.terms)++a.terms.take (k+1))=Dd l w):=by
    rw[Ad8,Abq,ac,Ac2,<-Ab4,mW,<-hL.out]
   have bc:Ad8 (VL (Dd l w)):=wU ai.out ap;clear ac;have ar:=Nw ap;cases hv:Af w with
   |true=>
    rw[hv]at ar;rw[ar]at an;have hP:=fun z=>Nk l i3 w Ad2 ai.out ap hv z;generalize az:(Ap w).2=w2 at an hP;have bb:Ad8 _:=az;clear az
    repeat' (first|refine Z1 ?_|(refine Z8 ?_;intro κ hκ)|(refine Z4 ?_;clear hκ κ)|(refine Z2 ?_ ?_<;>intro h af<;>try exact Xp)|(refine Z6 ?_;intro idn zn aj ak ae ab ad aa)|(refine Z5 ?_;refine Xi (hP _) ?_;rintro _ _ ⟨rfl,rfl⟩)|refine Z3 ?_|exact⟨⟩|(apply hκ.out;clear hκ κ))
    ·have ao:Bs l w= -1:=by simpa using h
     have a5:w∉l:=fun hm=>by rw[Bs,if_pos hm]at ao;omega
     have ba:Keep z ((z'.new [sc (.bool false),sc (.int .i64 0)]).put z'.nobj [sc (.bool true),sc (.int .i64 w2)]):=(hK.new _).put hK.nobj _;refine Bj (by first|exact Oj) ba (Own.put (Own.new hO _) _ _) (by decide) (by rfl) (by simp) (by rfl) (by rfl) (by decide) Ad2 Ad2 ?_;intro idn zn aj ak ae ab ad aa;refine Z3 ?_
     repeat' (first|refine Z1 ?_|(refine Z8 ?_;intro κ hκ)|(refine Z4 ?_;clear hκ κ)|(refine Z2 ?_ ?_<;>intro h af<;>try exact Xp)|(refine Z6 ?_;intro idn zn aj ak ae ab ad aa)|refine Z3 ?_|exact⟨⟩|(apply hκ.out;clear hκ κ))
     have a0:Dd l w=l++[w]:=by rw[Dd,if_pos ⟨hv,a5⟩]
     refine⟨a.terms.length-(k+1),Ad2,k+1,idn,l++[w],rfl,Ad2,?_,by simp,by simpa using aj,by simp;omega,by rw[<-a0];exact bc,by rw[Ad8,ah.out,a0]⟩;simp[encI,bb.out]
    ·have ao:Bs l w≠ -1:=by simpa using h
     have a8:w∈l:=by
      by_cases hm:w∈l
      ·exact hm
      ·rw[Bs,if_neg hm]at ao;exact absurd rfl ao
     refine⟨a.terms.length-(k+1),Ad2,k+1,i3,l,rfl,Ad2,rfl,by simp,(hK.new _).put hK.nobj _,Own.put (Own.new hO _) _ _,Ad2,ai,?_⟩;rw[Ad8,ah.out,Dd,if_neg (fun h=>h.2 a8)]
   |false=>
    rw[hv]at ar;rw[ar]at an;generalize (Ap w).2=w2 at an
    repeat' (first|refine Z1 ?_|(refine Z8 ?_;intro κ hκ)|(refine Z4 ?_;clear hκ κ)|(refine Z2 ?_ ?_<;>intro h af<;>try exact Xp)|(refine Z6 ?_;intro idn zn aj ak ae ab ad aa)|refine Z3 ?_|exact⟨⟩|(apply hκ.out;clear hκ κ))
    refine⟨a.terms.length-(k+1),Ad2,k+1,i3,l,rfl,Ad2,rfl,by simp,(hK.new _).put hK.nobj _,Own.put (Own.new hO _) _ _,Ad2,ai,?_⟩;rw[Ad8,ah.out,Dd,if_neg (fun h=>by rw[hv]at h;cases h.1)]
  ·have a6:k=a.terms.length:=Ad2;subst a6;rw[Abn]at hL
   repeat' (first|refine Z1 ?_|(refine Z8 ?_;intro κ hκ)|(refine Z4 ?_;clear hκ κ)|(refine Z2 ?_ ?_<;>intro h af<;>try exact Xp)|(refine Z6 ?_;intro idn zn aj ak ae ab ad aa)|refine Z3 ?_|exact⟨⟩|(apply hκ.out;clear hκ κ))
   exact⟨ls.length-(j+1),Ad2,j+1,i3,l,rfl,Ad2,rfl,by simp,hO,Ad2,ai,by rw[Ad8,Abq,HG.out];simpa using hL.out⟩
 ·have a7:j=ls.length:=Ad2;subst a7;rw[Abn]at hL
  repeat' (first|refine Z1 ?_|(refine Z8 ?_;intro κ hκ)|(refine Z4 ?_;clear hκ κ)|(refine Z2 ?_ ?_<;>intro h af<;>try exact Xp)|(refine Z6 ?_;intro idn zn aj ak ae ab ad aa)|refine Z3 ?_|exact⟨⟩|(apply hκ.out;clear hκ κ))
  rw[<-hL.out]
  first|exact⟨_,rfl,i3,rfl,ai.out,hK⟩|exact⟨_,rfl,i3,rfl,ai.out⟩
def Is (l:List Tx)(t:Tx):List AV:=[sc (.bool (Af t)),sc (.int .i64 (if Af t=true then Bs l t else (Ap t).2))]
def Db (l:List Tx)(ts:List Tx):List AV:=ts.flatMap (Is l)
theorem fQ (l ts:List Tx):(Db l ts).length=ts.length*2:=by
 induction ts with
 |nil=>rfl
 |cons a ts ih=>unfold Db at*;rw[Acv,Ab2,ih];simp[Is];omega
theorem aZ (l ts:List Tx)(x:Tx):Db l (ts++[x])=Db l ts++Is l x:=by simp[Db]
theorem Nj (l:List Tx)(ido:Nat)(kp:Int)(ids:Nat)(a:RAtom)(hl:l.length<=10000000)(hL:VL l)(hV:VA a)(hn:a.terms.length<=1000)(z:St):
  ACalls Tryz.prog 144 [ag [sc (.int .i64 kp),sl ids a.terms.length (Aw a.terms)],sl ido l.length (l.map encI)] z fun r z'=>∃id,r=ag [sc (.int .i64 kp),sl id a.terms.length (Db l a.terms)]/\Keep z z':=by
 have a0:=Ea a.terms;have ay:Ad8 (VA a):=hV;clear hV;refine Z9 33 [.cell 4 122] Tryz.func144 ?_
 repeat' (first|refine Z1 ?_|(refine Z8 ?_;intro κ hκ)|(refine Z4 ?_;clear hκ κ)|(refine Z2 ?_ ?_<;>intro h ae<;>try exact Xp)|(refine Z6 ?_;intro idn zn ah ai ad aa ac ab)|refine Z3 ?_|exact⟨⟩|(apply hκ.out;clear hκ κ))
 refine Ad (fun m s z'=>∃(k i3:Nat) (xs:List AV),m=a.terms.length-k/\k<=a.terms.length/\s 1=sl ido l.length (l.map encI)/\s 4=ptr (z.nobj+1) 0/\s 5=ptr (z.nobj+2) 0/\s 12=sl ids a.terms.length (Aw a.terms)/\s 13=sc (.int .i64 a.terms.length)/\s 14=sc (.int .i64 k)/\Keep z z'/\z.nobj+2<z'.nobj/\z'.obj (z.nobj+1)=[sc (.int .i64 0),nilS]/\z'.obj (z.nobj+2)=[sc (.int .i64 kp),sl i3 k xs]/\Own z z' i3 k/\xs.length=k*2/\Ad8 (xs=Db l (a.terms.take k))) a.terms.length
  ⟨0,1,[],Ad2,Ad2,by simp[upd,initS],Ad4,Ad4,Ad4,Ad4,rfl,?_,?_,?_,?_,Own.nil _ _,by simp,by simp[Ad8,Db]⟩ ?_
 ·exact ((((Keep.refl z).new _).new _).new _).put Ad2 _
 ·simp only[Ab,Aa];omega
 ·rw[Ai Ad2,Ae Ad6,Bp (by rw[Aa];omega) (by rw[Aa];omega)]
 ·rw[show z.nobj+2=z.nobj+1+1 by omega,Aj]
 rintro m s z' ⟨k,i3,xs,rfl,hk,h1,h4,h5,a6,a5,a4,hK,a3,aw,av,hO,ar,hX⟩;have az:=hK.nobj;by_cases au:k<a.terms.length
 ·have af:=List.getElem?_eq_getElem au;have ao:=ay.out a.terms[k] (Acz au);obtain⟨r2,ak⟩:=E5 af;generalize a.terms[k]=w at ak af ao;have aj:Ad8 (Db l (a.terms.take (k+1))=xs++Is l w):=by
   rw[Ad8,Abq,af,Ac2,aZ,<-hX.out]
  clear af;have an:=Nw ao;cases hv:Af w with
  |true=>
   rw[hv]at an;rw[an]at ak;have hP:=fun z=>Nk l ido w hl hL ao hv z;have am:Ad8 (Is l w=[sc (.bool true),sc (.int .i64 (Bs l w))]):=by simp[Ad8,Is,hv]
   generalize (Ap w).2=w2 at ak hP
   repeat' (first|refine Z1 ?_|(refine Z8 ?_;intro κ hκ)|(refine Z4 ?_;clear hκ κ)|(refine Z2 ?_ ?_<;>intro h ae<;>try exact Xp)|(refine Z6 ?_;intro idn zn ah ai ad aa ac ab)|(refine Z5 ?_;refine Xi (hP _) ?_;rintro _ _ ⟨rfl,rfl⟩)|refine Z3 ?_|exact⟨⟩|(apply hκ.out;clear hκ κ))
   have ap:Keep z (((z'.new [sc (.bool false),sc (.int .i64 0)]).put z'.nobj [sc (.bool true),sc (.int .i64 w2)]).put z'.nobj [sc (.bool true),sc (.int .i64 (Bs l w))]):=((hK.new _).put hK.nobj _).put hK.nobj _;refine Bj (by first|exact Ds) ap (Own.put (Own.put (Own.new hO _) _ _) _ _) (by decide) (by rfl) ar (by rfl) (by rfl) (by decide) Ad2 Ad2 ?_;intro idn zn ah ai ad aa ac ab;simp only[Ab,Aa]at aa;refine Z3 ?_
   repeat' (first|refine Z1 ?_|(refine Z8 ?_;intro κ hκ)|(refine Z4 ?_;clear hκ κ)|(refine Z2 ?_ ?_<;>intro h ae<;>try exact Xp)|(refine Z6 ?_;intro idn zn ah ai ad aa ac ab)|refine Z3 ?_|exact⟨⟩|(apply hκ.out;clear hκ κ))
   refine⟨a.terms.length-(k+1),Ad2,k+1,idn,_,rfl,Ad2,by simp,ai.put Ad2 _,Ad2,rfl,Own.put ah _ _,by simp;omega,?_⟩;rw[Ad8,aj.out,am.out]
  |false=>
   rw[hv]at an;rw[an]at ak;have am:Ad8 (Is l w=[sc (.bool false),sc (.int .i64 (Ap w).2)]):=by simp[Ad8,Is,hv]
   generalize (Ap w).2=w2 at ak am
   repeat' (first|refine Z1 ?_|(refine Z8 ?_;intro κ hκ)|(refine Z4 ?_;clear hκ κ)|(refine Z2 ?_ ?_<;>intro h ae<;>try exact Xp)|(refine Z6 ?_;intro idn zn ah ai ad aa ac ab)|refine Z3 ?_|exact⟨⟩|(apply hκ.out;clear hκ κ))
   have ap:Keep z ((z'.new [sc (.bool false),sc (.int .i64 0)]).put z'.nobj [sc (.bool false),sc (.int .i64 w2)]):=(hK.new _).put hK.nobj _;refine Bj (by first|exact Ds) ap (Own.put (Own.new hO _) _ _) (by decide) (by rfl) ar (by rfl) (by rfl) (by decide) Ad2 Ad2 ?_;intro idn zn ah ai ad aa ac ab;simp only[Ab,Aa]at aa;refine Z3 ?_
   repeat' (first|refine Z1 ?_|(refine Z8 ?_;intro κ hκ)|(refine Z4 ?_;clear hκ κ)|(refine Z2 ?_ ?_<;>intro h ae<;>try exact Xp)|(refine Z6 ?_;intro idn zn ah ai ad aa ac ab)|refine Z3 ?_|exact⟨⟩|(apply hκ.out;clear hκ κ))
   refine⟨a.terms.length-(k+1),Ad2,k+1,idn,_,rfl,Ad2,by simp,ai.put Ad2 _,Ad2,rfl,Own.put ah _ _,by simp;omega,?_⟩;rw[Ad8,aj.out,am.out]
 ·have ax:k=a.terms.length:=Ad2;subst ax;rw[Abn]at hX
  repeat' (first|refine Z1 ?_|(refine Z8 ?_;intro κ hκ)|(refine Z4 ?_;clear hκ κ)|(refine Z2 ?_ ?_<;>intro h ae<;>try exact Xp)|(refine Z6 ?_;intro idn zn ah ai ad aa ac ab)|refine Z3 ?_|exact⟨⟩|(apply hκ.out;clear hκ κ))
  exact⟨_,rfl,i3,by rw[hX.out],hK.put Ad2 _⟩
theorem P7 (N:List Tx)(x:RItem)(c:List AV)(hc:PI N x c)(ho:x.out=true->x.body=[])(hx:x.fits)(hV:∀a∈Ag x,VA a)(z:St):ACalls Tryz.prog 96 [ag c] z fun r z'=>∃id,r=sl id (Ba x).length ((Ba x).map encI)/\VL (Ba x)/\Keep z z':=by
 have hA:=Kh N x c hc ho (by have:=hx.1;omega);have ab:∀a∈Ag x,a.terms.length<=1000:=by
  intro a ha;unfold Ag at ha;rcases Ack.1 ha with h|h
  ·split at h
   ·cases h
   ·simp at h;subst h;exact hx.2.1
  ·exact hx.2.2 a h
 have ad:=hx.atoms;have aa:=fun cs ida hE z=>Of N (Ag x) cs ida hE hV ad ab z;obtain⟨hm,ih,id,b,hb,rfl⟩:=hc;unfold Ba;generalize Dc [] ((Ag x).flatMap (·.terms))=lo at aa;refine Z9 6 [.tmp 2] Tryz.func96 ?_
 repeat' (first|refine Z1 ?_|(refine Z8 ?_;intro κ hκ)|(refine Z4 ?_;clear hκ κ)|(refine Z2 ?_ ?_<;>intro h ac<;>try exact Xp)|(refine Z5 ?_;first|(refine Xi (hA _) ?_;rintro _ _ ⟨ida,cs,rfl,hE,ah⟩)|(refine Xi (aa _ _ (by assumption) _) ?_;rintro _ _ ⟨id2,rfl,ae,af⟩))|refine Z3 ?_|exact⟨⟩|(apply hκ.out;clear hκ κ))
 exact⟨_,rfl,id2,rfl,Xs⟩
end Go.Proofs.YtmoeoppbmhfbpabGreatDoorH
