import Derived.Shelf.Strconv.Itoa3
import Derived.Test.YtmoeoppbmhfbpabGreatDoorProg
import Derived.Test.YtmoeoppbmhfbpabGreatDoorGAbsWp
import Derived.Test.YtmoeoppbmhfbpabGreatDoorGProgR
set_option maxHeartbeats 16000000
set_option maxRecDepth 100000
set_option linter.all false
namespace Go.Proofs
open Go.Shelf
def Tryz.laysM171_ren:Go.Shelf.Ren:=⟨fun|171=>88|243=>143|246=>191|283=>228|284=>229|285=>230|286=>231|129=>259|317=>258|318=>260|319=>261|320=>262|337=>267|338=>268|n=>n,fun|3=>3|9=>9|2=>2|4=>4|171=>276|0=>0|53=>277|37=>87|5=>5|173=>280|212=>298|51=>299|20=>20|213=>300|46=>301|232=>306|233=>307|n=>n,fun|17=>0|18=>1|19=>2|n=>n⟩
theorem Tryz.laysM171:Go.Proofs.LaysM.n171 Tryz.prog Tryz.laysM171_ren:={
 mixed:=by kernel_rfl
 f129:=Tryz.func259.trans (congrArg some (by kernel_rfl))
 f171:=Tryz.func88.trans (congrArg some (by kernel_rfl))
 f243:=Tryz.func143.trans (congrArg some (by kernel_rfl))
 f246:=Tryz.func191.trans (congrArg some (by kernel_rfl))
 f283:=Tryz.func228.trans (congrArg some (by kernel_rfl))
 f284:=Tryz.func229.trans (congrArg some (by kernel_rfl))
 f285:=Tryz.func230.trans (congrArg some (by kernel_rfl))
 f286:=Tryz.func231.trans (congrArg some (by kernel_rfl))
 f317:=Tryz.func258.trans (congrArg some (by kernel_rfl))
 f318:=Tryz.func260.trans (congrArg some (by kernel_rfl))
 f319:=Tryz.func261.trans (congrArg some (by kernel_rfl))
 f320:=Tryz.func262.trans (congrArg some (by kernel_rfl))
 f337:=Tryz.func267.trans (congrArg some (by kernel_rfl))
 f338:=Tryz.func268.trans (congrArg some (by kernel_rfl))
 t0:=Tryz.underlying0
 a0:=Tryz.isAgg0
 z0:=Tryz.sizeOf0
 v0:=Tryz.zeroValue0
 t2:=Tryz.underlying2
 a2:=Tryz.isAgg2
 z2:=Tryz.sizeOf2
 v2:=Tryz.zeroValue2
 t3:=Tryz.underlying3
 a3:=Tryz.isAgg3
 z3:=Tryz.sizeOf3
 v3:=Tryz.zeroValue3
 t4:=Tryz.underlying4
 a4:=Tryz.isAgg4
 z4:=Tryz.sizeOf4
 v4:=Tryz.zeroValue4
 t5:=Tryz.underlying5
 a5:=Tryz.isAgg5
 z5:=Tryz.sizeOf5
 v5:=Tryz.zeroValue5
 t9:=Tryz.underlying9
 a9:=Tryz.isAgg9
 z9:=Tryz.sizeOf9
 v9:=Tryz.zeroValue9
 t20:=Tryz.underlying20
 a20:=Tryz.isAgg20
 z20:=Tryz.sizeOf20
 v20:=Tryz.zeroValue20
 t37:=Tryz.underlying87
 a37:=Tryz.isAgg87
 z37:=Tryz.sizeOf87
 v37:=Tryz.zeroValue87
 t46:=Tryz.underlying301
 a46:=Tryz.isAgg301
 z46:=Tryz.sizeOf301
 v46:=Tryz.zeroValue301
 t51:=Tryz.underlying299
 a51:=Tryz.isAgg299
 z51:=Tryz.sizeOf299
 v51:=Tryz.zeroValue299
 t53:=Tryz.underlying277
 a53:=Tryz.isAgg277
 z53:=Tryz.sizeOf277
 v53:=Tryz.zeroValue277
 t171:=Tryz.underlying276
 a171:=Tryz.isAgg276
 z171:=Tryz.sizeOf276
 v171:=Tryz.zeroValue276
 t173:=Tryz.underlying280
 a173:=Tryz.isAgg280
 z173:=Tryz.sizeOf280
 v173:=Tryz.zeroValue280
 t212:=Tryz.underlying298
 a212:=Tryz.isAgg298
 z212:=Tryz.sizeOf298
 v212:=Tryz.zeroValue298
 t213:=Tryz.underlying300
 a213:=Tryz.isAgg300
 z213:=Tryz.sizeOf300
 t232:=Tryz.underlying306
 a232:=Tryz.isAgg306
 z232:=Tryz.sizeOf306
 v232:=Tryz.zeroValue306
 t233:=Tryz.underlying307
 a233:=Tryz.isAgg307
 z233:=Tryz.sizeOf307
 v233:=Tryz.zeroValue307
 g17:=by kernel_rfl
 g18:=by kernel_rfl
 g19:=by kernel_rfl
 i0:=by kernel_rfl
 i2:=by kernel_rfl
 i3:=by kernel_rfl
 i4:=by kernel_rfl
 i5:=by kernel_rfl
 i9:=by kernel_rfl
 i20:=by kernel_rfl
 i37:=by kernel_rfl
 i46:=by kernel_rfl
 i51:=by kernel_rfl
 i53:=by kernel_rfl
 i171:=by kernel_rfl
 i173:=by kernel_rfl
 i212:=by kernel_rfl
 i232:=by kernel_rfl
 i233:=by kernel_rfl
 m17:=by kernel_rfl
 m18:=by kernel_rfl
 m19:=by kernel_rfl}
end Go.Proofs
namespace Go.Proofs.YtmoeoppbmhfbpabGreatDoorG
open Go.Abs Go.Sort
open Go.RowKit (Below)
theorem Lg (w:World)(k:Nat)(os:Array Obj){b:Nat}(h:b<w.heap.size):(grow (w.drewN k) os).heap[b]?=w.heap[b]?:=by
 show (w.heap++os)[b]?=w.heap[b]?;exact Array.getElem?_append_left h
theorem pM (w:World)(k:Nat)(os:Array Obj){b o:Nat}(h:b<w.heap.size):(grow (w.drewN k) os).cell? ⟨b,o,none⟩=w.cell? ⟨b,o,none⟩:=by
 unfold World.cell?;rw[Lg w k os h]
theorem pK {G:Gh}{z:St}{w:World}(I:Abs.Inv G z w)(k:Nat)(os:Array Obj):Abs.Inv G z (grow (w.drewN k) os)/\Ext G z w G z (grow (w.drewN k) os):=by
 have E:Ext G z w G z (grow (w.drewN k) os):=⟨rfl,rfl,Adn _,fun _ _=>rfl,Adn _,fun _ _=>⟨Adn _,rfl,fun _=>⟨rfl,rfl⟩⟩,fun b off p=>⟨p,pM w k os (I.perlt _ _ p)⟩,fun o h=>⟨Adn _,fun _=>Lg w k os (I.blk_lt h)⟩⟩;have aa:w.heap.size<=(grow (w.drewN k) os).heap.size:=by
  show w.heap.size<=(w.heap++os).size;rw[Array.size_append];omega
 refine⟨⟨fun p hp=>?_,I.inj,fun k hk=>?_,I.linj,I.apart,fun b off p=>Adp (I.perlt _ _ p) aa,I.perlo,?_,Ado I.le aa,I.hyp⟩,E⟩
 ·obtain⟨h1,h2,h3⟩:=I.obj p hp;refine⟨h1,Adp h2 aa,fun ab=>?_⟩;obtain⟨⟨arr,e,hb,ha⟩,h4⟩:=h3 ab;exact⟨⟨arr,e,by rw[Lg _ _ _ (I.blk_lt hp)];exact hb,VR.all E ha⟩,h4⟩
 ·obtain⟨h1,⟨arr,e,hb,ha⟩,h3⟩:=I.lin k hk;exact⟨h1,⟨arr,e,by rw[Lg _ _ _ (I.cur_lt hk)];exact hb,ha⟩,h3⟩
 ·have hb:=I.below;have hl:=I.le;exact⟨hb.os,hb.tape,hb.output,Ado hb.size aa,fun j hj=>by rw[Lg _ _ _ Agm];exact hb.block j hj⟩
theorem X7 (n:Int)(h0:0<=n)(h1:n<=9999)(z:St):ACalls Tryz.prog 88 [sc (.int .i64 n)] z fun x z'=>x=str (Lib.itoa n)/\z'=z:=by
 refine⟨Agp,fun G w cargs I A=>?_⟩;obtain⟨v,rfl⟩:∃v,cargs=#[v]:=by
  have hl:=A.1
  match cargs,hl with
  |⟨[v]⟩,_=>exact⟨v,rfl⟩
 have hv:v= .int .i64 n:=(A.2 0 v _ rfl rfl).unfold;subst hv;refine (Any.strconv_Itoa Tryz.laysM171 n Agm Agm w (I.hyp w I.below)).mono ?_;rintro e w' ⟨rfl,k,os,rfl⟩;obtain⟨I',E⟩:=pK I k os;exact⟨_,G,_,z,rfl,I',E,VR.sc _,rfl,rfl⟩
open Go.Abs
def DT (w:Tx):Prop:=Ad w=true\/(Ad w=false/\Lib.itoa (Am w).2=w/\0<=(Am w).2/\(Am w).2<=999)
theorem aV {b:UInt8}{m:Nat}(h:b.toNat=m):UInt8.ofNat m=b:=by rw[<-h];exact UInt8.ofNat_toNat
theorem Up {v d:Nat}(hv:1<=v)(hd:d<=9):Lib.decDigits (v*10+d)=Lib.decDigits v++[UInt8.ofNat (48+d)]:=by
 rw[Lib.decDigits,dif_neg Agm,show (v*10+d) / 10=v by omega,show (v*10+d) % 10=d by omega]
theorem Zu {w:Tx}{m:Nat}(hv:Ad w=false)(hw:w≠[])(hn:Hj w=(m:Int))(hm:m<=999)(hd:Lib.decDigits m=w):DT w:=by
 cases w with
 |nil=>exact absurd rfl hw
 |cons b r=>
  refine .inr ⟨hv,?_⟩;rw[Li hv];dsimp only;rw[hn];exact⟨by rw[Lib.itoa_nonneg,hd],Agm,Agm⟩
theorem dN (s w r:Tx)(h:Ci s= .got w r):DT w:=by
 cases s with
 |nil=>cases h
 |cons b q=>
  unfold Ci at h;dsimp only at h;split at h
  ·rename_i hl;cases h;exact .inl hl
  rename_i hl;have hl:A8 b.toNat=false:=by simpa using hl
  split at h
  ·rename_i h0;cases h;have ad:b.toNat=48:=by
    have:(b.toNat:Int)=48:=by simpa using h0
    omega
   exact Zu (m:=0) hl (by simp) (by simp[Hj,ad]) Agm (by rw[Lib.decDigits_one Agm,aV ad])
  split at h
  ·rename_i h9;cases h;have hb:49<=b.toNat/\b.toNat<=57:=by simp[Gb]at h9;omega
   have aa:=(Ds Az 2 q).2;have ac:(Aw Az 2 q).1.length<=2:=by
    cases q with
    |nil=>simp[Aw]
    |cons c q=>
     unfold Aw;split
     ·cases q with
      |nil=>simp[Aw]
      |cons d q=>unfold Aw;split<;>simp[Aw]
     ·simp
   have ab:∀c:UInt8,Az c.toNat=true->48<=c.toNat/\c.toNat<=57:=fun c hc=>by simp[Az]at hc;omega
   have d1:Lib.decDigits (b.toNat-48)=[b]:=by rw[Lib.decDigits_one Agm,aV (show b.toNat=48+(b.toNat-48)by omega)]
   generalize (Aw Az 2 q).1=ds at aa ac
   match ds,aa,ac with
   |[],_,_=>exact Zu (m:=b.toNat-48) hl (by simp) (by simp[Hj];omega) Agm d1
   |[c],aa,_=>
    have hc:=ab c (aa c (by simp));have d2:Lib.decDigits ((b.toNat-48)*10+(c.toNat-48))=[b,c]:=by rw[Up Agm Agm,d1,aV (show c.toNat=48+(c.toNat-48)by omega)];rfl
    exact Zu (m:=(b.toNat-48)*10+(c.toNat-48)) hl (by simp) (by simp[Hj];omega) Agm d2
   |[c,d],aa,_=>
    have hc:=ab c (aa c (by simp));have hd:=ab d (aa d (by simp));have d2:Lib.decDigits ((b.toNat-48)*10+(c.toNat-48))=[b,c]:=by rw[Up Agm Agm,d1,aV (show c.toNat=48+(c.toNat-48)by omega)];rfl
    have d3:Lib.decDigits (((b.toNat-48)*10+(c.toNat-48))*10+(d.toNat-48))=[b,c,d]:=by rw[Up Agm Agm,d2,aV (show d.toNat=48+(d.toNat-48)by omega)];rfl
    exact Zu (m:=((b.toNat-48)*10+(c.toNat-48))*10+(d.toNat-48)) hl (by simp) (by simp[Hj];omega) Agm d3
  ·cases h
def Br (l:List Tx)(s:Tx):Int:=if s∈l then ((l.idxOf s:Nat):Int)else -1
def De (acc:List Tx)(t:Tx):List Tx:=if Ad t=true/\t∉acc then acc++[t]else acc
def Dd (acc:List Tx)(ts:List Tx):List Tx:=ts.foldl De acc
def Au (x:RItem):List Tx:=Dd [] ((Ae x).flatMap (·.terms))
theorem T1 (ts:List Tx):∀acc,(Dd acc ts).length<=acc.length+ts.length:=by
 induction ts with
 |nil=>intro acc;simp[Dd]
 |cons t ts ih=>
  intro acc;have:=ih (De acc t);have h2:(De acc t).length<=acc.length+1:=by unfold De;split<;>simp
  simp only[Dd,Ady,Aen]at*
  omega
theorem oV (acc ts:List Tx)(t:Tx):Dd acc (ts++[t])=De (Dd acc ts) t:=by simp[Dd]
theorem T2 (acc ts us:List Tx):Dd acc (ts++us)=Dd (Dd acc ts) us:=by simp[Dd]
def Co (k:Int):UInt8:=UInt8.ofNat (IntKind.u8.wrap (IntKind.i64.wrap (65+Int.tmod k 26))).toNat
def Cx (l:List Tx)(t:Tx):Tx:=if Ad t=true then [Co (Br l t)]else t
def wrS (k:Nat):Tx:=if k=0 then [40]else [44]
def Jr (l:List Tx):Nat->List Tx->Tx
 |_,[]=>[]
 |k,t::ts=>wrS k++Cx l t++Jr l (k+1) ts
theorem Vu (l:List Tx):∀(ts:List Tx) (k:Nat) (t:Tx),Jr l k (ts++[t])=Jr l k ts++(wrS (k+ts.length)++Cx l t)
 |[],k,t=>by simp[Jr]
 |u::ts,k,t=>by
  rw[Aes,Jr,Vu l ts (k+1) t,Jr];simp only[Aeg,Aen];rw[show k+1+ts.length=k+(ts.length+1)by omega]
def Hs (l:List Tx)(a:RAtom):Tx:=(if a.nt=true then [33]else [])++a.pred++Jr l 0 a.terms++[41]
def short (a:RAtom):Prop:=a.pred.length<=1000/\a.terms.length<=1000/\∀t∈a.terms,t.length<=1000
theorem kM (l:List Tx)(t:Tx)(h:t.length<=1000):(Cx l t).length<=1000:=by unfold Cx;split<;>simp[h]
theorem R3 (l:List Tx):∀(ts:List Tx) (k:Nat),(∀t∈ts,t.length<=1000)->(Jr l k ts).length<=ts.length*1001
 |[],k,h=>by simp[Jr]
 |t::ts,k,h=>by
  have h1:=kM l t (h t (by simp));have h2:=R3 l ts (k+1) fun u hu=>h u (by simp[hu]);have h3:(wrS k).length=1:=by unfold wrS;split<;>rfl
  simp only[Jr,Aee,Aen];omega
def nK (j:Nat):Tx:=if j=0 then [58,45]else [44]
def Hg (l:List Tx):Nat->List RAtom->Tx
 |_,[]=>[]
 |j,a::ls=>nK j++Hs l a++Hg l (j+1) ls
theorem Vv (l:List Tx):∀(ls:List RAtom) (j:Nat) (a:RAtom),Hg l j (ls++[a])=Hg l j ls++(nK (j+ls.length)++Hs l a)
 |[],j,a=>by simp[Hg]
 |b::ls,j,a=>by
  rw[Aes,Hg,Vv l ls (j+1) a,Hg];simp only[Aeg,Aen];rw[show j+1+ls.length=j+(ls.length+1)by omega]
theorem R1 {l:List Tx}{a:RAtom}(h:short a):(Hs l a).length<=1002003:=by
 obtain⟨h1,h2,h3⟩:=h;have h4:=R3 l a.terms 0 h3;have h5:(if a.nt=true then ([33]:Tx)else []).length<=1:=by split<;>simp
 simp only[Hs,Aee,Ae4];omega
theorem wX (j:Nat):(nK j).length<=2:=by unfold nK;split<;>simp
def Cu (x:RItem):Tx:=if x.out=true then 63::x.head.pred++[46]else Hs (Au x) x.head++Hg (Au x) 0 x.body++[46]
def RItem.short (x:RItem):Prop:=Go.Proofs.YtmoeoppbmhfbpabGreatDoorG.short x.head/\∀a∈x.body,Go.Proofs.YtmoeoppbmhfbpabGreatDoorG.short a
theorem fM {x:RItem}(hx:x.fits):((Ae x).flatMap (·.terms)).length<=1001*1000:=by
 have h1:=hx.atoms;have aa:∀a∈Ae x,a.terms.length<=1000:=by
  intro a ha;unfold Ae at ha;rcases Aew.1 ha with h|h
  ·split at h
   ·cases h
   ·simp at h;subst h;exact hx.2.1
  ·exact hx.2.2 a h
 generalize Ae x=ls at h1 aa;have:(ls.flatMap (·.terms)).length<=ls.length*1000:=by
  clear h1;induction ls with
  |nil=>simp
  |cons a ls ih=>
   have h2:=ih fun b hb=>aa b (by simp[hb]);have h3:=aa a (by simp);simp only[Ae5,Aee,Aen];omega
 omega
theorem tP {x:RItem}(hx:x.fits):(Au x).length<=10000000:=by
 have h1:=T1 ((Ae x).flatMap (·.terms)) [];have h2:=fM hx;unfold Au;rw[Aem,Aed]at h1;omega
def Cg (l:List RItem):Tx:=l.flatMap Cu
theorem aI {l:List Tx}:∀(ls:List RAtom) (j:Nat),(∀a∈ls,short a)->(Hg l j ls).length<=ls.length*1002010
 |[],j,h=>by simp[Hg]
 |a::ls,j,h=>by
  have h1:=R1 (l:=l) (h a (by simp));have h2:=aI (l:=l) ls (j+1) fun b hb=>h b (by simp[hb]);have h3:=wX j;simp only[Hg,Aee,Aen];omega
theorem Nz {x:RItem}(hx:x.fits)(hs:x.short):(Cu x).length<=1100000000:=by
 have h1:=R1 (l:=Au x) hs.1;have h2:=aI (l:=Au x) x.body 0 hs.2;have h3:=hx.1;have h4:=hs.1.1;unfold Cu;split
 ·simp;omega
 ·simp only[Aee,Ae4];omega
theorem nT {ts:List Tx}{t:Tx}(h:t∈ts):t.length<=(A7 ts).length:=by
 induction ts with
 |nil=>cases h
 |cons u ts ih=>
  unfold A7 at*
  simp only[Ae5,Aee,Aen];rcases Aeq.1 h with rfl|h
  ·omega
  ·have:=ih h;omega
theorem V3 {ts:List Tx}{t:Tx}(h:t∈ts):t.length<=(A2 ts).length:=by
 cases ts with
 |nil=>cases h
 |cons u ts=>
  unfold A2;simp only[Aee];rcases Aeq.1 h with rfl|h
  ·omega
  ·have:=nT h;omega
theorem Qg {a:RAtom}(hw:a.terms.length<=3)(h:(A4 a).length<=1000):short a:=by
 unfold A4 at h;simp only[Aee,Aen]at h;refine⟨Agm,Agm,fun t ht=>?_⟩;have:=V3 ht;omega
theorem aP {x:RItem}(hw:Bv x)(h:(A0 x).length<=1000):x.short:=by
 obtain⟨-,h2,h3⟩:=hw;unfold A0 at h;cases ho:x.out with
 |true=>
  rw[if_pos ho]at h;obtain⟨-,q1,q2⟩:=h2 ho;simp only[Aen]at h;exact⟨⟨Agm,by simp[q1],by simp[q1]⟩,by simp[q2]⟩
 |false=>
  rw[if_neg (by rw[ho];simp)]at h;obtain⟨q1,-,q2,q3⟩:=h3 ho;unfold Cv at h;simp only[Aee]at h;refine⟨Qg q1.2.2.1 Agm,fun a ha=>?_⟩;have aa:x.body≠[]:=by intro e;rw[e]at ha;cases ha
  rw[if_neg aa]at h;simp only[Aen]at h;have hm:=V3 (List.mem_map_of_mem (f:=Bb) ha);have hl:(A4 a).length<=(Bb a).length:=by unfold Bb;simp
  exact Qg (q3 a ha).2.2.1 Agm
theorem gQ {l:List RItem}{x:RItem}(h:x∈l):(A0 x).length<=(Bj l).length:=by
 induction l with
 |nil=>cases h
 |cons y l ih=>
  unfold Bj at*
  simp only[Ae5,Aee];rcases Aeq.1 h with rfl|h
  ·omega
  ·have:=ih h;omega
theorem Qk {s:Tx}{l:List RItem}{r:Tx}(hs:s.length<=1000)(h:Bz 16 s= .got l r):∀x∈l,x.short:=by
 obtain⟨h1,-,-,h4⟩:=Iq _ _ _ _ h;intro x hx;have:=gQ hx;rw[<-h1]at this;exact aP (h4 x hx) Agm
def cQ (s:Tx):Tx×Int:=if (Ax s).1=0 then (Cg (Cp s),0)else ([],(Ax s).1)
def encI (t:Tx):AV:=sc (.int .i64 (Am t).2)
theorem eF {l:List Tx}{k:Nat}(h:k<l.length):(l.map encI).drop k=sc (.int .i64 (Am l[k]).2)::(l.map encI).drop (k+1):=by
 rw[Aep (by simpa using h)];simp[encI]
def VL (l:List Tx):Prop:=∀t∈l,VT t/\Ad t=true
theorem mV {t u:Tx}(ht:VT t)(hu:VT u)(vt:Ad t=true)(vu:Ad u=true)(h:(Am t).2=(Am u).2):t=u:=by
 have:=uM ht hu vu;unfold Np at this;rw[O1 ht,vt,h]at this;simpa using this.symm
theorem Om (l:List Tx)(ids:Nat)(t:Tx)(hl:l.length<=10000000)(hL:VL l)(ht:VT t)(hv:Ad t=true)(z:St):ACalls Tryz.prog 85 [sc (.int .i64 (Am t).2),sl ids l.length (l.map encI)] z fun x z'=>x=sc (.int .i64 (Br l t))/\z'=z:=by
 have aa:∀u∈l,(Am u).2=(Am t).2->u=t:=fun u hu h=>mV (hL u hu).1 ht (hL u hu).2 hv h;generalize ai:(Am t).2=v at aa;have ao:Agt _:=ai;clear ai;refine Z9 19 [.tmp 4] Tryz.func85 ?_
 repeat' (first|refine Z1 ?_|(refine Z8 ?_;intro κ hκ)|(refine Z4 ?_;clear hκ κ)|(refine Z2 ?_ ?_<;>intro h ab<;>try exact Xp)|refine Z3 ?_|exact⟨⟩|(apply hκ.out;clear hκ κ))
 refine Ag (fun m s' z'=>∃i:Nat,m=l.length-i/\i<=l.length/\s' 0=sc (.int .i64 v)/\s' 7=sl ids l.length (l.map encI)/\s' 8=sc (.int .i64 l.length)/\s' 9=sc (.int .i64 i)/\z'=z/\Agt (∀a,a<i->l[a]?≠some t)) l.length
  ⟨0,Agm,Agm,rfl,rfl,rfl,rfl,rfl,fun a ha=>Agm⟩ ?_
 rintro m s' z' ⟨i,rfl,hi,h0,h7,h8,h9,hz,hno⟩;subst hz;by_cases ae:i<l.length
 ·have ah:=eF ae;have HX:Agt (l[i]?=some l[i]):=List.getElem?_eq_getElem ae;have ac:=aa l[i] (Afa ae);generalize l[i]=w at ah HX ac;generalize af:(Am w).2=vw at ah ac;have an:Agt _:=af;have ap:Agt _:=ac;clear af ac aa
  repeat' (first|refine Z1 ?_|(refine Z8 ?_;intro κ hκ)|(refine Z4 ?_;clear hκ κ)|(refine Z2 ?_ ?_<;>intro h ab<;>try exact Xp)|refine Z3 ?_|exact⟨⟩|(apply hκ.out;clear hκ κ))
  ·have hw:w=t:=ap.out (by simpa using h);have ad:t∈l:=by rw[<-hw];exact Adt HX.out
   exact⟨_,rfl,by rw[Br,if_pos ad,P1 hno.out (by rw[HX.out,hw])]⟩
  ·have hw:w≠t:=by
    rintro rfl;have:vw=v:=by rw[<-an.out,<-ao.out]
    simp[this]at h
   refine⟨l.length-(i+1),Agm,i+1,rfl,Agm,by simp,?_⟩;intro a ha;by_cases am:a=i
   ·subst am;rw[HX.out];simpa using hw
   ·exact hno.out a Agm
 ·have ak:i=l.length:=Agm;subst ak;have aj:=T5 hno.out;clear aa
  repeat' (first|refine Z1 ?_|(refine Z8 ?_;intro κ hκ)|(refine Z4 ?_;clear hκ κ)|(refine Z2 ?_ ?_<;>intro h ab<;>try exact Xp)|refine Z3 ?_|exact⟨⟩|(apply hκ.out;clear hκ κ))
  exact⟨_,rfl,by rw[Br,if_neg aj]⟩
theorem zV {l:List Tx}{t:Tx}(h:VL l)(ht:VT t):VL (De l t):=by
 unfold De;split
 ·rename_i hc;intro u hu;rcases Aew.1 hu with hu|hu
  ·exact h u hu
  ·simp at hu;subst hu;exact⟨ht,hc.1⟩
 ·exact h
theorem Pk (N:List Tx)(ls:List RAtom)(cs:List AV)(ida:Nat)(hE:EL (PC N) ls cs)(hV:∀a∈ls,VA a)(hn:ls.length<=1001)(ba:∀a∈ls,a.terms.length<=1000)(z:St):
  ACalls Tryz.prog 150 [sl ida ls.length cs] z fun r z'=>∃id,r=sl id (Dd [] (ls.flatMap (·.terms))).length ((Dd [] (ls.flatMap (·.terms))).map encI)/\VL (Dd [] (ls.flatMap (·.terms)))/\Keep z z':=by
 have bh:=EL.length aD hE;refine Z9 39 [.tmp 2] Tryz.func150 ?_
 repeat' (first|refine Z1 ?_|(refine Z8 ?_;intro κ hκ)|(refine Z4 ?_;clear hκ κ)|(refine Z2 ?_ ?_<;>intro h af<;>try exact Xp)|(refine Z6 ?_;intro idn zn aj ak ae ab ad aa)|refine Z3 ?_|exact⟨⟩|(apply hκ.out;clear hκ κ))
 refine Ag (fun m s z'=>∃(j i3:Nat) (l:List Tx),m=ls.length-j/\j<=ls.length/\s 3=sl i3 l.length (l.map encI)/\s 9=sl ida ls.length cs/\s 10=sc (.int .i64 ls.length)/\s 11=sc (.int .i64 j)/\Keep z z'/\Own z z' i3 l.length/\l.length<=j*1000/\Agt (VL l)/\Agt (l=Dd [] ((ls.take j).flatMap (·.terms)))) ls.length
  ⟨0,1,[],Agm,Agm,rfl,rfl,rfl,rfl,Keep.refl _,Own.nil _ _,by simp,(fun t ht=>by cases ht),by simp[Agt,Dd]⟩ ?_
 rintro m s z' ⟨j,i3,l,rfl,hj,h3,h9,ay,ax,hK,hO,a4,ai,hL⟩;by_cases aw:j<ls.length
 ·have ac:=List.getElem?_eq_getElem aw;have a5:=ba ls[j] (Afa aw);have av:=hV ls[j] (Afa aw);obtain⟨ha,ia,r,hd⟩:=wP hE ac;generalize ls[j]=a at hd ac a5 ha av;have HG:Agt (ls[j]?=some a):=ac;have bf:Agt (VA a):=av;clear ac av;have bg:=Ek a.terms;have az:=hK.nobj
  repeat' (first|refine Z1 ?_|(refine Z8 ?_;intro κ hκ)|(refine Z4 ?_;clear hκ κ)|(refine Z2 ?_ ?_<;>intro h af<;>try exact Xp)|(refine Z6 ?_;intro idn zn aj ak ae ab ad aa)|refine Z3 ?_|exact⟨⟩|(apply hκ.out;clear hκ κ))
  refine Ag (fun m s z'=>∃(k i3:Nat) (l:List Tx),m=a.terms.length-k/\k<=a.terms.length/\s 3=sl i3 l.length (l.map encI)/\s 9=sl ida ls.length cs/\s 10=sc (.int .i64 ls.length)/\s 11=sc (.int .i64 j)/\s 16=sl ia a.terms.length (Ay a.terms)/\s 17=sc (.int .i64 a.terms.length)/\s 18=sc (.int .i64 k)/\Keep z z'/\Own z z' i3 l.length/\l.length<=j*1000+k/\Agt (VL l)/\Agt (l=Dd [] ((ls.take j).flatMap (·.terms)++a.terms.take k))) a.terms.length
   ⟨0,i3,l,Agm,Agm,by simp[upd,h3],by simp[upd,h9],by simp[upd,ay],by simp[upd,ax],Ago,rfl,rfl,(hK.new _).put hK.nobj _,Own.put (Own.new hO _) _ _,Agm,ai,by simpa using hL⟩ ?_
  clear hK hO hL a4 ai h3 h9 ay ax az l;rintro m s z' ⟨k,i3,l,rfl,hk,h3,h9,ay,ax,bn,bm,bi,hK,hO,a4,ai,hL⟩;have az:=hK.nobj;by_cases am:k<a.terms.length
  ·have ac:=List.getElem?_eq_getElem am;have ap:=bf.out a.terms[k] (Afa am);obtain⟨r2,an⟩:=Fj ac;generalize a.terms[k]=w at an ac ap;have ah:Agt (Dd [] ((ls.take j).flatMap (·.terms)++a.terms.take (k+1))=De l w):=by
    rw[Agt,Ad3,ac,Afe,<-Aeg,oV,<-hL.out]
   have be:Agt (VL (De l w)):=zV ai.out ap;clear ac;have au:=O1 ap;cases hv:Ad w with
   |true=>
    rw[hv]at au;rw[au]at an;have hP:=fun z=>Om l i3 w Agm ai.out ap hv z;generalize a0:(Am w).2=w2 at an hP;have bd:Agt _:=a0;clear a0
    repeat' (first|refine Z1 ?_|(refine Z8 ?_;intro κ hκ)|(refine Z4 ?_;clear hκ κ)|(refine Z2 ?_ ?_<;>intro h af<;>try exact Xp)|(refine Z6 ?_;intro idn zn aj ak ae ab ad aa)|(refine Z5 ?_;refine Xi (hP _) ?_;rintro _ _ ⟨rfl,rfl⟩)|refine Z3 ?_|exact⟨⟩|(apply hκ.out;clear hκ κ))
    ·have ao:Br l w= -1:=by simpa using h
     have a6:w∉l:=fun hm=>by rw[Br,if_pos hm]at ao;omega
     have bb:Keep z ((z'.new [sc (.bool false),sc (.int .i64 0)]).put z'.nobj [sc (.bool true),sc (.int .i64 w2)]):=(hK.new _).put hK.nobj _;refine Bm (by first|exact Po) bb (Own.put (Own.new hO _) _ _) (by decide) (by rfl) (by simp) (by rfl) (by rfl) (by decide) Agm Agm ?_;intro idn zn aj ak ae ab ad aa;refine Z3 ?_
     repeat' (first|refine Z1 ?_|(refine Z8 ?_;intro κ hκ)|(refine Z4 ?_;clear hκ κ)|(refine Z2 ?_ ?_<;>intro h af<;>try exact Xp)|(refine Z6 ?_;intro idn zn aj ak ae ab ad aa)|refine Z3 ?_|exact⟨⟩|(apply hκ.out;clear hκ κ))
     have a3:De l w=l++[w]:=by rw[De,if_pos ⟨hv,a6⟩]
     refine⟨a.terms.length-(k+1),Agm,k+1,idn,l++[w],rfl,Agm,?_,by simp,by simpa using aj,by simp;omega,by rw[<-a3];exact be,by rw[Agt,ah.out,a3]⟩;simp[encI,bd.out]
    ·have ao:Br l w≠ -1:=by simpa using h
     have a9:w∈l:=by
      by_cases hm:w∈l
      ·exact hm
      ·rw[Br,if_neg hm]at ao;exact absurd rfl ao
     refine⟨a.terms.length-(k+1),Agm,k+1,i3,l,rfl,Agm,rfl,by simp,(hK.new _).put hK.nobj _,Own.put (Own.new hO _) _ _,Agm,ai,?_⟩;rw[Agt,ah.out,De,if_neg (fun h=>h.2 a9)]
   |false=>
    rw[hv]at au;rw[au]at an;generalize (Am w).2=w2 at an
    repeat' (first|refine Z1 ?_|(refine Z8 ?_;intro κ hκ)|(refine Z4 ?_;clear hκ κ)|(refine Z2 ?_ ?_<;>intro h af<;>try exact Xp)|(refine Z6 ?_;intro idn zn aj ak ae ab ad aa)|refine Z3 ?_|exact⟨⟩|(apply hκ.out;clear hκ κ))
    refine⟨a.terms.length-(k+1),Agm,k+1,i3,l,rfl,Agm,rfl,by simp,(hK.new _).put hK.nobj _,Own.put (Own.new hO _) _ _,Agm,ai,?_⟩;rw[Agt,ah.out,De,if_neg (fun h=>by rw[hv]at h;cases h.1)]
  ·have a7:k=a.terms.length:=Agm;subst a7;rw[Adz]at hL
   repeat' (first|refine Z1 ?_|(refine Z8 ?_;intro κ hκ)|(refine Z4 ?_;clear hκ κ)|(refine Z2 ?_ ?_<;>intro h af<;>try exact Xp)|(refine Z6 ?_;intro idn zn aj ak ae ab ad aa)|refine Z3 ?_|exact⟨⟩|(apply hκ.out;clear hκ κ))
   exact⟨ls.length-(j+1),Agm,j+1,i3,l,rfl,Agm,rfl,by simp,hO,Agm,ai,by rw[Agt,Ad3,HG.out];simpa using hL.out⟩
 ·have a8:j=ls.length:=Agm;subst a8;rw[Adz]at hL
  repeat' (first|refine Z1 ?_|(refine Z8 ?_;intro κ hκ)|(refine Z4 ?_;clear hκ κ)|(refine Z2 ?_ ?_<;>intro h af<;>try exact Xp)|(refine Z6 ?_;intro idn zn aj ak ae ab ad aa)|refine Z3 ?_|exact⟨⟩|(apply hκ.out;clear hκ κ))
  rw[<-hL.out]
  first|exact⟨_,rfl,i3,rfl,ai.out,hK⟩|exact⟨_,rfl,i3,rfl,ai.out⟩
def Jb (l:List Tx)(t:Tx):List AV:=[sc (.bool (Ad t)),sc (.int .i64 (if Ad t=true then Br l t else (Am t).2))]
def Dc (l:List Tx)(ts:List Tx):List AV:=ts.flatMap (Jb l)
theorem iI (l ts:List Tx):(Dc l ts).length=ts.length*2:=by
 induction ts with
 |nil=>rfl
 |cons a ts ih=>unfold Dc at*;rw[Ae5,Aee,ih];simp[Jb];omega
theorem cU (l ts:List Tx)(x:Tx):Dc l (ts++[x])=Dc l ts++Jb l x:=by simp[Dc]
theorem Oj (l:List Tx)(ido:Nat)(kp:Int)(ids:Nat)(a:RAtom)(hl:l.length<=10000000)(hL:VL l)(hV:VA a)(hn:a.terms.length<=1000)(z:St):
  ACalls Tryz.prog 144 [ag [sc (.int .i64 kp),sl ids a.terms.length (Ay a.terms)],sl ido l.length (l.map encI)] z fun r z'=>∃id,r=ag [sc (.int .i64 kp),sl id a.terms.length (Dc l a.terms)]/\Keep z z':=by
 have a3:=Ek a.terms;have az:Agt (VA a):=hV;clear hV;refine Z9 33 [.cell 4 122] Tryz.func144 ?_
 repeat' (first|refine Z1 ?_|(refine Z8 ?_;intro κ hκ)|(refine Z4 ?_;clear hκ κ)|(refine Z2 ?_ ?_<;>intro h ae<;>try exact Xp)|(refine Z6 ?_;intro idn zn ah ai ad aa ac ab)|refine Z3 ?_|exact⟨⟩|(apply hκ.out;clear hκ κ))
 refine Ag (fun m s z'=>∃(k i3:Nat) (xs:List AV),m=a.terms.length-k/\k<=a.terms.length/\s 1=sl ido l.length (l.map encI)/\s 4=ptr (z.nobj+1) 0/\s 5=ptr (z.nobj+2) 0/\s 12=sl ids a.terms.length (Ay a.terms)/\s 13=sc (.int .i64 a.terms.length)/\s 14=sc (.int .i64 k)/\Keep z z'/\z.nobj+2<z'.nobj/\z'.obj (z.nobj+1)=[sc (.int .i64 0),nilS]/\z'.obj (z.nobj+2)=[sc (.int .i64 kp),sl i3 k xs]/\Own z z' i3 k/\xs.length=k*2/\Agt (xs=Dc l (a.terms.take k))) a.terms.length
  ⟨0,1,[],Agm,Agm,by simp[upd,initS],Ago,Ago,Ago,Ago,rfl,?_,?_,?_,?_,Own.nil _ _,by simp,by simp[Agt,Dc]⟩ ?_
 ·exact ((((Keep.refl z).new _).new _).new _).put Agm _
 ·simp only[Ab,Aa];omega
 ·rw[Ai Agm,Af Agq,Bs (by rw[Aa];omega) (by rw[Aa];omega)]
 ·rw[show z.nobj+2=z.nobj+1+1 by omega,Aj]
 rintro m s z' ⟨k,i3,xs,rfl,hk,h1,h4,h5,a6,a5,a4,hK,hno,ax,aw,hO,au,hX⟩;have a0:=hK.nobj;by_cases av:k<a.terms.length
 ·have af:=List.getElem?_eq_getElem av;have ao:=az.out a.terms[k] (Afa av);obtain⟨r2,ak⟩:=Fj af;generalize a.terms[k]=w at ak af ao;have aj:Agt (Dc l (a.terms.take (k+1))=xs++Jb l w):=by
   rw[Agt,Ad3,af,Afe,cU,<-hX.out]
  clear af;have an:=O1 ao;cases hv:Ad w with
  |true=>
   rw[hv]at an;rw[an]at ak;have hP:=fun z=>Om l ido w hl hL ao hv z;have am:Agt (Jb l w=[sc (.bool true),sc (.int .i64 (Br l w))]):=by simp[Agt,Jb,hv]
   generalize (Am w).2=w2 at ak hP
   repeat' (first|refine Z1 ?_|(refine Z8 ?_;intro κ hκ)|(refine Z4 ?_;clear hκ κ)|(refine Z2 ?_ ?_<;>intro h ae<;>try exact Xp)|(refine Z6 ?_;intro idn zn ah ai ad aa ac ab)|(refine Z5 ?_;refine Xi (hP _) ?_;rintro _ _ ⟨rfl,rfl⟩)|refine Z3 ?_|exact⟨⟩|(apply hκ.out;clear hκ κ))
   have ap:Keep z (((z'.new [sc (.bool false),sc (.int .i64 0)]).put z'.nobj [sc (.bool true),sc (.int .i64 w2)]).put z'.nobj [sc (.bool true),sc (.int .i64 (Br l w))]):=((hK.new _).put hK.nobj _).put hK.nobj _;refine Bm (by first|exact Dv) ap (Own.put (Own.put (Own.new hO _) _ _) _ _) (by decide) (by rfl) au (by rfl) (by rfl) (by decide) Agm Agm ?_;intro idn zn ah ai ad aa ac ab;simp only[Ab,Aa]at aa;refine Z3 ?_
   repeat' (first|refine Z1 ?_|(refine Z8 ?_;intro κ hκ)|(refine Z4 ?_;clear hκ κ)|(refine Z2 ?_ ?_<;>intro h ae<;>try exact Xp)|(refine Z6 ?_;intro idn zn ah ai ad aa ac ab)|refine Z3 ?_|exact⟨⟩|(apply hκ.out;clear hκ κ))
   refine⟨a.terms.length-(k+1),Agm,k+1,idn,_,rfl,Agm,by simp,ai.put Agm _,Agm,rfl,Own.put ah _ _,by simp;omega,?_⟩;rw[Agt,aj.out,am.out]
  |false=>
   rw[hv]at an;rw[an]at ak;have am:Agt (Jb l w=[sc (.bool false),sc (.int .i64 (Am w).2)]):=by simp[Agt,Jb,hv]
   generalize (Am w).2=w2 at ak am
   repeat' (first|refine Z1 ?_|(refine Z8 ?_;intro κ hκ)|(refine Z4 ?_;clear hκ κ)|(refine Z2 ?_ ?_<;>intro h ae<;>try exact Xp)|(refine Z6 ?_;intro idn zn ah ai ad aa ac ab)|refine Z3 ?_|exact⟨⟩|(apply hκ.out;clear hκ κ))
   have ap:Keep z ((z'.new [sc (.bool false),sc (.int .i64 0)]).put z'.nobj [sc (.bool false),sc (.int .i64 w2)]):=(hK.new _).put hK.nobj _;refine Bm (by first|exact Dv) ap (Own.put (Own.new hO _) _ _) (by decide) (by rfl) au (by rfl) (by rfl) (by decide) Agm Agm ?_;intro idn zn ah ai ad aa ac ab;simp only[Ab,Aa]at aa;refine Z3 ?_
   repeat' (first|refine Z1 ?_|(refine Z8 ?_;intro κ hκ)|(refine Z4 ?_;clear hκ κ)|(refine Z2 ?_ ?_<;>intro h ae<;>try exact Xp)|(refine Z6 ?_;intro idn zn ah ai ad aa ac ab)|refine Z3 ?_|exact⟨⟩|(apply hκ.out;clear hκ κ))
   refine⟨a.terms.length-(k+1),Agm,k+1,idn,_,rfl,Agm,by simp,ai.put Agm _,Agm,rfl,Own.put ah _ _,by simp;omega,?_⟩;rw[Agt,aj.out,am.out]
 ·have ay:k=a.terms.length:=Agm;subst ay;rw[Adz]at hX
  repeat' (first|refine Z1 ?_|(refine Z8 ?_;intro κ hκ)|(refine Z4 ?_;clear hκ κ)|(refine Z2 ?_ ?_<;>intro h ae<;>try exact Xp)|(refine Z6 ?_;intro idn zn ah ai ad aa ac ab)|refine Z3 ?_|exact⟨⟩|(apply hκ.out;clear hκ κ))
  exact⟨_,rfl,i3,by rw[hX.out],hK.put Agm _⟩
theorem Q3 (N:List Tx)(x:RItem)(c:List AV)(hc:PI N x c)(ho:x.out=true->x.body=[])(hx:x.fits)(hV:∀a∈Ae x,VA a)(z:St):ACalls Tryz.prog 96 [ag c] z fun r z'=>∃id,r=sl id (Au x).length ((Au x).map encI)/\VL (Au x)/\Keep z z':=by
 have hA:=K7 N x c hc ho (by have:=hx.1;omega);have ab:∀a∈Ae x,a.terms.length<=1000:=by
  intro a ha;unfold Ae at ha;rcases Aew.1 ha with h|h
  ·split at h
   ·cases h
   ·simp at h;subst h;exact hx.2.1
  ·exact hx.2.2 a h
 have ad:=hx.atoms;have aa:=fun cs ida hE z=>Pk N (Ae x) cs ida hE hV ad ab z;obtain⟨hm,ih,id,b,hb,rfl⟩:=hc;unfold Au;generalize Dd [] ((Ae x).flatMap (·.terms))=lo at aa;refine Z9 6 [.tmp 2] Tryz.func96 ?_
 repeat' (first|refine Z1 ?_|(refine Z8 ?_;intro κ hκ)|(refine Z4 ?_;clear hκ κ)|(refine Z2 ?_ ?_<;>intro h ac<;>try exact Xp)|(refine Z5 ?_;first|(refine Xi (hA _) ?_;rintro _ _ ⟨ida,cs,rfl,hE,ah⟩)|(refine Xi (aa _ _ (by assumption) _) ?_;rintro _ _ ⟨id2,rfl,ae,af⟩))|refine Z3 ?_|exact⟨⟩|(apply hκ.out;clear hκ κ))
 exact⟨_,rfl,id2,rfl,Xs⟩
end Go.Proofs.YtmoeoppbmhfbpabGreatDoorG
