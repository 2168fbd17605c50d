import Derived.Shelf.Strconv.Itoa3
import Derived.Test.YtmoeoppbmhfbpabGreatDoorProg
import Derived.Test.YtmoeoppbmhfbpabGreatDoorLAbsWp
import Derived.Test.YtmoeoppbmhfbpabGreatDoorLProgM
set_option maxHeartbeats 16000000
set_option maxRecDepth 100000
set_option linter.all false
namespace Go.Proofs
open Go.Shelf
def Tryz.laysM171_ren:Go.Shelf.Ren:=⟨fun|171=>88|243=>143|246=>191|283=>228|284=>229|285=>230|286=>231|129=>259|317=>258|318=>260|319=>261|320=>262|337=>267|338=>268|n=>n,fun|3=>3|9=>9|2=>2|4=>4|171=>276|0=>0|53=>277|37=>87|5=>5|173=>280|212=>298|51=>299|20=>20|213=>300|46=>301|232=>306|233=>307|n=>n,fun|17=>0|18=>1|19=>2|n=>n⟩
theorem Tryz.laysM171:Go.Proofs.LaysM.n171 Tryz.prog Tryz.laysM171_ren:={
 mixed:=by kernel_rfl
 f129:=Tryz.func259.trans (congrArg some (by kernel_rfl))
 f171:=Tryz.func88.trans (congrArg some (by kernel_rfl))
 f243:=Tryz.func143.trans (congrArg some (by kernel_rfl))
 f246:=Tryz.func191.trans (congrArg some (by kernel_rfl))
 f283:=Tryz.func228.trans (congrArg some (by kernel_rfl))
 f284:=Tryz.func229.trans (congrArg some (by kernel_rfl))
 f285:=Tryz.func230.trans (congrArg some (by kernel_rfl))
 f286:=Tryz.func231.trans (congrArg some (by kernel_rfl))
 f317:=Tryz.func258.trans (congrArg some (by kernel_rfl))
 f318:=Tryz.func260.trans (congrArg some (by kernel_rfl))
 f319:=Tryz.func261.trans (congrArg some (by kernel_rfl))
 f320:=Tryz.func262.trans (congrArg some (by kernel_rfl))
 f337:=Tryz.func267.trans (congrArg some (by kernel_rfl))
 f338:=Tryz.func268.trans (congrArg some (by kernel_rfl))
 t0:=Tryz.underlying0
 a0:=Tryz.isAgg0
 z0:=Tryz.sizeOf0
 v0:=Tryz.zeroValue0
 t2:=Tryz.underlying2
 a2:=Tryz.isAgg2
 z2:=Tryz.sizeOf2
 v2:=Tryz.zeroValue2
 t3:=Tryz.underlying3
 a3:=Tryz.isAgg3
 z3:=Tryz.sizeOf3
 v3:=Tryz.zeroValue3
 t4:=Tryz.underlying4
 a4:=Tryz.isAgg4
 z4:=Tryz.sizeOf4
 v4:=Tryz.zeroValue4
 t5:=Tryz.underlying5
 a5:=Tryz.isAgg5
 z5:=Tryz.sizeOf5
 v5:=Tryz.zeroValue5
 t9:=Tryz.underlying9
 a9:=Tryz.isAgg9
 z9:=Tryz.sizeOf9
 v9:=Tryz.zeroValue9
 t20:=Tryz.underlying20
 a20:=Tryz.isAgg20
 z20:=Tryz.sizeOf20
 v20:=Tryz.zeroValue20
 t37:=Tryz.underlying87
 a37:=Tryz.isAgg87
 z37:=Tryz.sizeOf87
 v37:=Tryz.zeroValue87
 t46:=Tryz.underlying301
 a46:=Tryz.isAgg301
 z46:=Tryz.sizeOf301
 v46:=Tryz.zeroValue301
 t51:=Tryz.underlying299
 a51:=Tryz.isAgg299
 z51:=Tryz.sizeOf299
 v51:=Tryz.zeroValue299
 t53:=Tryz.underlying277
 a53:=Tryz.isAgg277
 z53:=Tryz.sizeOf277
 v53:=Tryz.zeroValue277
 t171:=Tryz.underlying276
 a171:=Tryz.isAgg276
 z171:=Tryz.sizeOf276
 v171:=Tryz.zeroValue276
 t173:=Tryz.underlying280
 a173:=Tryz.isAgg280
 z173:=Tryz.sizeOf280
 v173:=Tryz.zeroValue280
 t212:=Tryz.underlying298
 a212:=Tryz.isAgg298
 z212:=Tryz.sizeOf298
 v212:=Tryz.zeroValue298
 t213:=Tryz.underlying300
 a213:=Tryz.isAgg300
 z213:=Tryz.sizeOf300
 t232:=Tryz.underlying306
 a232:=Tryz.isAgg306
 z232:=Tryz.sizeOf306
 v232:=Tryz.zeroValue306
 t233:=Tryz.underlying307
 a233:=Tryz.isAgg307
 z233:=Tryz.sizeOf307
 v233:=Tryz.zeroValue307
 g17:=by kernel_rfl
 g18:=by kernel_rfl
 g19:=by kernel_rfl
 i0:=by kernel_rfl
 i2:=by kernel_rfl
 i3:=by kernel_rfl
 i4:=by kernel_rfl
 i5:=by kernel_rfl
 i9:=by kernel_rfl
 i20:=by kernel_rfl
 i37:=by kernel_rfl
 i46:=by kernel_rfl
 i51:=by kernel_rfl
 i53:=by kernel_rfl
 i171:=by kernel_rfl
 i173:=by kernel_rfl
 i212:=by kernel_rfl
 i232:=by kernel_rfl
 i233:=by kernel_rfl
 m17:=by kernel_rfl
 m18:=by kernel_rfl
 m19:=by kernel_rfl}
end Go.Proofs
namespace Go.Proofs.YtmoeoppbmhfbpabGreatDoorL
open Go.Abs Go.Sort
open Go.RowKit (Below)
theorem L5 (w:World)(k:Nat)(os:Array Obj){b:Nat}(h:b<w.heap.size):(grow (w.drewN k) os).heap[b]?=w.heap[b]?:=by
 show (w.heap++os)[b]?=w.heap[b]?;exact Array.getElem?_append_left h
theorem tE (w:World)(k:Nat)(os:Array Obj){b o:Nat}(h:b<w.heap.size):(grow (w.drewN k) os).cell? ⟨b,o,none⟩=w.cell? ⟨b,o,none⟩:=by
 unfold World.cell?;rw[L5 w k os h]
theorem sZ {G:Gh}{σ:St}{w:World}(I:Abs.Inv G σ w)(k:Nat)(os:Array Obj):Abs.Inv G σ (grow (w.drewN k) os)/\Ext G σ w G σ (grow (w.drewN k) os):=by
 have E:Ext G σ w G σ (grow (w.drewN k) os):=⟨rfl,rfl,Agn _,fun _ _=>rfl,Agn _,fun _ _=>⟨Agn _,rfl,fun _=>⟨rfl,rfl⟩⟩,fun b off p=>⟨p,tE w k os (I.perlt _ _ p)⟩,fun o h=>⟨Agn _,fun _=>L5 w k os (I.blk_lt h)⟩⟩;have aa:w.heap.size<=(grow (w.drewN k) os).heap.size:=by
  show w.heap.size<=(w.heap++os).size;rw[Array.size_append];omega
 refine⟨⟨fun p hp=>?_,I.inj,fun k hk=>?_,I.linj,I.apart,fun b off p=>Agp (I.perlt _ _ p) aa,I.perlo,?_,Ago I.le aa,I.hyp⟩,E⟩
 ·obtain⟨h1,h2,h3⟩:=I.obj p hp;refine⟨h1,Agp h2 aa,fun ab=>?_⟩;obtain⟨⟨arr,e,hb,ha⟩,h4⟩:=h3 ab;exact⟨⟨arr,e,by rw[L5 _ _ _ (I.blk_lt hp)];exact hb,VR.all E ha⟩,h4⟩
 ·obtain⟨h1,⟨arr,e,hb,ha⟩,h3⟩:=I.lin k hk;exact⟨h1,⟨arr,e,by rw[L5 _ _ _ (I.cur_lt hk)];exact hb,ha⟩,h3⟩
 ·have hb:=I.below;have hl:=I.le;exact⟨hb.os,hb.tape,hb.output,Ago hb.size aa,fun j hj=>by rw[L5 _ _ _ Aj6];exact hb.block j hj⟩
theorem Q0 (n:Int)(h0:0<=n)(h1:n<=9999)(σ:St):ACalls Tryz.prog 88 [sc (.int .i64 n)] σ fun x σ'=>x=str (Lib.itoa n)/\σ'=σ:=by
 refine⟨Aj9,fun G w cargs I A=>?_⟩;obtain⟨v,rfl⟩:∃v,cargs=#[v]:=by
  have hl:=A.1
  match cargs,hl with
  |⟨[v]⟩,_=>exact⟨v,rfl⟩
 have hv:v= .int .i64 n:=(A.2 0 v _ rfl rfl).unfold;subst hv;refine (Any.strconv_Itoa Tryz.laysM171 n Aj6 Aj6 w (I.hyp w I.below)).mono ?_;rintro e w' ⟨rfl,k,os,rfl⟩;obtain⟨I',E⟩:=sZ I k os;exact⟨_,G,_,σ,rfl,I',E,VR.sc _,rfl,rfl⟩
open Go.Abs
def DT (w:Tx):Prop:=Ad w=true\/(Ad w=false/\Lib.itoa (Ak w).2=w/\0<=(Ak w).2/\(Ak w).2<=999)
theorem dQ {b:UInt8}{m:Nat}(h:b.toNat=m):UInt8.ofNat m=b:=by rw[<-h];exact UInt8.ofNat_toNat
theorem Vy {v d:Nat}(hv:1<=v)(hd:d<=9):Lib.decDigits (v*10+d)=Lib.decDigits v++[UInt8.ofNat (48+d)]:=by
 rw[Lib.decDigits,dif_neg Aj6,show (v*10+d) / 10=v by omega,show (v*10+d) % 10=d by omega]
theorem cR {w:Tx}{m:Nat}(hv:Ad w=false)(hw:w≠[])(hn:H7 w=(m:Int))(hm:m<=999)(hd:Lib.decDigits m=w):DT w:=by
 cases w with
 |nil=>exact absurd rfl hw
 |cons b r=>
  refine .inr ⟨hv,?_⟩;rw[Mb hv];dsimp only;rw[hn];exact⟨by rw[Lib.itoa_nonneg,hd],Aj6,Aj6⟩
theorem Pm (s w r:Tx)(h:Ci s= .got w r):DT w:=by
 cases s with
 |nil=>cases h
 |cons b q=>
  unfold Ci at h;dsimp only at h;split at h
  ·rename_i hl;cases h;exact .inl hl
  rename_i hl;have hl:Bl b.toNat=false:=by simpa using hl
  split at h
  ·rename_i h0;cases h;have ad:b.toNat=48:=by
    have:(b.toNat:Int)=48:=by simpa using h0
    omega
   exact cR (m:=0) hl (by simp) (by simp[H7,ad]) Aj6 (by rw[Lib.decDigits_one Aj6,dQ ad])
  split at h
  ·rename_i h9;cases h;have hb:49<=b.toNat/\b.toNat<=57:=by simp[Gz]at h9;omega
   have aa:=(D7 Az 2 q).2;have ac:(Av Az 2 q).1.length<=2:=by
    cases q with
    |nil=>simp[Av]
    |cons c q=>
     unfold Av;split
     ·cases q with
      |nil=>simp[Av]
      |cons d q=>unfold Av;split<;>simp[Av]
     ·simp
   have ab:∀c:UInt8,Az c.toNat=true->48<=c.toNat/\c.toNat<=57:=fun c hc=>by simp[Az]at hc;omega
   have d1:Lib.decDigits (b.toNat-48)=[b]:=by rw[Lib.decDigits_one Aj6,dQ (show b.toNat=48+(b.toNat-48)by omega)]
   generalize (Av Az 2 q).1=ds at aa ac
   match ds,aa,ac with
   |[],_,_=>exact cR (m:=b.toNat-48) hl (by simp) (by simp[H7];omega) Aj6 d1
   |[c],aa,_=>
    have hc:=ab c (aa c (by simp));have d2:Lib.decDigits ((b.toNat-48)*10+(c.toNat-48))=[b,c]:=by rw[Vy Aj6 Aj6,d1,dQ (show c.toNat=48+(c.toNat-48)by omega)];rfl
    exact cR (m:=(b.toNat-48)*10+(c.toNat-48)) hl (by simp) (by simp[H7];omega) Aj6 d2
   |[c,d],aa,_=>
    have hc:=ab c (aa c (by simp));have hd:=ab d (aa d (by simp));have d2:Lib.decDigits ((b.toNat-48)*10+(c.toNat-48))=[b,c]:=by rw[Vy Aj6 Aj6,d1,dQ (show c.toNat=48+(c.toNat-48)by omega)];rfl
    have d3:Lib.decDigits (((b.toNat-48)*10+(c.toNat-48))*10+(d.toNat-48))=[b,c,d]:=by rw[Vy Aj6 Aj6,d2,dQ (show d.toNat=48+(d.toNat-48)by omega)];rfl
    exact cR (m:=((b.toNat-48)*10+(c.toNat-48))*10+(d.toNat-48)) hl (by simp) (by simp[H7];omega) Aj6 d3
  ·cases h
def Bw (l:List Tx)(s:Tx):Int:=if s∈l then ((l.idxOf s:Nat):Int)else -1
def F0 (acc:List Tx)(t:Tx):List Tx:=if Ad t=true/\t∉acc then acc++[t]else acc
def Hn (acc:List Tx)(ts:List Tx):List Tx:=ts.foldl F0 acc
def A4 (x:RItem):List Tx:=Hn [] ((Ae x).flatMap (·.terms))
theorem U9 (ts:List Tx):∀acc,(Hn acc ts).length<=acc.length+ts.length:=by
 induction ts with
 |nil=>intro acc;simp[Hn]
 |cons t ts ih=>
  intro acc;have:=ih (F0 acc t);have h2:(F0 acc t).length<=acc.length+1:=by unfold F0;split<;>simp
  simp only[Hn,Ag6,Ahy]at*
  omega
theorem sL (acc ts:List Tx)(t:Tx):Hn acc (ts++[t])=F0 (Hn acc ts) t:=by simp[Hn]
def Jp (k:Int):UInt8:=UInt8.ofNat (IntKind.u8.wrap (IntKind.i64.wrap (65+Int.tmod k 26))).toNat
def Gt (l:List Tx)(t:Tx):Tx:=if Ad t=true then [Jp (Bw l t)]else t
def wrS (k:Nat):Tx:=if k=0 then [40]else [44]
def Kg (l:List Tx):Nat->List Tx->Tx
 |_,[]=>[]
 |k,t::ts=>wrS k++Gt l t++Kg l (k+1) ts
theorem X3 (l:List Tx):∀(ts:List Tx) (k:Nat) (t:Tx),Kg l k (ts++[t])=Kg l k ts++(wrS (k+ts.length)++Gt l t)
 |[],k,t=>by simp[Kg]
 |u::ts,k,t=>by
  rw[Ah4,Kg,X3 l ts (k+1) t,Kg];simp only[Ahq,Ahy];rw[show k+1+ts.length=k+(ts.length+1)by omega]
def Io (l:List Tx)(a:RAtom):Tx:=(if a.nt=true then [33]else [])++a.pred++Kg l 0 a.terms++[41]
def short (a:RAtom):Prop:=a.pred.length<=1000/\a.terms.length<=1000/\∀t∈a.terms,t.length<=1000
theorem oE (l:List Tx)(t:Tx)(h:t.length<=1000):(Gt l t).length<=1000:=by unfold Gt;split<;>simp[h]
theorem Td (l:List Tx):∀(ts:List Tx) (k:Nat),(∀t∈ts,t.length<=1000)->(Kg l k ts).length<=ts.length*1001
 |[],k,h=>by simp[Kg]
 |t::ts,k,h=>by
  have h1:=oE l t (h t (by simp));have h2:=Td l ts (k+1) fun u hu=>h u (by simp[hu]);have h3:(wrS k).length=1:=by unfold wrS;split<;>rfl
  simp only[Kg,Aho,Ahy];omega
def rA (j:Nat):Tx:=if j=0 then [58,45]else [44]
def H3 (l:List Tx):Nat->List RAtom->Tx
 |_,[]=>[]
 |j,a::ls=>rA j++Io l a++H3 l (j+1) ls
theorem X4 (l:List Tx):∀(ls:List RAtom) (j:Nat) (a:RAtom),H3 l j (ls++[a])=H3 l j ls++(rA (j+ls.length)++Io l a)
 |[],j,a=>by simp[H3]
 |b::ls,j,a=>by
  rw[Ah4,H3,X4 l ls (j+1) a,H3];simp only[Ahq,Ahy];rw[show j+1+ls.length=j+(ls.length+1)by omega]
theorem Tc {l:List Tx}{a:RAtom}(h:short a):(Io l a).length<=1002003:=by
 obtain⟨h1,h2,h3⟩:=h;have h4:=Td l a.terms 0 h3;have h5:(if a.nt=true then ([33]:Tx)else []).length<=1:=by split<;>simp
 simp only[Io,Aho,Aii];omega
theorem Aav (j:Nat):(rA j).length<=2:=by unfold rA;split<;>simp
def Dg (x:RItem):Tx:=if x.out=true then 63::x.head.pred++[46]else Io (A4 x) x.head++H3 (A4 x) 0 x.body++[46]
def RItem.short (x:RItem):Prop:=Go.Proofs.YtmoeoppbmhfbpabGreatDoorL.short x.head/\∀a∈x.body,Go.Proofs.YtmoeoppbmhfbpabGreatDoorL.short a
theorem jP {x:RItem}(hx:x.fits):((Ae x).flatMap (·.terms)).length<=1001*1000:=by
 have h1:=hx.atoms;have aa:∀a∈Ae x,a.terms.length<=1000:=by
  intro a ha;unfold Ae at ha;rcases Ah8.1 ha with h|h
  ·split at h
   ·cases h
   ·simp at h;subst h;exact hx.2.1
  ·exact hx.2.2 a h
 generalize Ae x=ls at h1 aa;have:(ls.flatMap (·.terms)).length<=ls.length*1000:=by
  clear h1;induction ls with
  |nil=>simp
  |cons a ls ih=>
   have h2:=ih fun b hb=>aa b (by simp[hb]);have h3:=aa a (by simp);simp only[Aik,Aho,Ahy];omega
 omega
theorem xS {x:RItem}(hx:x.fits):(A4 x).length<=10000000:=by
 have h1:=U9 ((Ae x).flatMap (·.terms)) [];have h2:=jP hx;unfold A4;rw[Ahx,Ahn]at h1;omega
def Cj (l:List RItem):Tx:=l.flatMap Dg
theorem dH {l:List Tx}:∀(ls:List RAtom) (j:Nat),(∀a∈ls,short a)->(H3 l j ls).length<=ls.length*1002010
 |[],j,h=>by simp[H3]
 |a::ls,j,h=>by
  have h1:=Tc (l:=l) (h a (by simp));have h2:=dH (l:=l) ls (j+1) fun b hb=>h b (by simp[hb]);have h3:=Aav j;simp only[H3,Aho,Ahy];omega
theorem Ox {x:RItem}(hx:x.fits)(hs:x.short):(Dg x).length<=1100000000:=by
 have h1:=Tc (l:=A4 x) hs.1;have h2:=dH (l:=A4 x) x.body 0 hs.2;have h3:=hx.1;have h4:=hs.1.1;unfold Dg;split
 ·simp;omega
 ·simp only[Aho,Aii];omega
theorem rH {ts:List Tx}{t:Tx}(h:t∈ts):t.length<=(Bz ts).length:=by
 induction ts with
 |nil=>cases h
 |cons u ts ih=>
  unfold Bz at*
  simp only[Aik,Aho,Ahy];rcases Ah2.1 h with rfl|h
  ·omega
  ·have:=ih h;omega
theorem Yd {ts:List Tx}{t:Tx}(h:t∈ts):t.length<=(Bj ts).length:=by
 cases ts with
 |nil=>cases h
 |cons u ts=>
  unfold Bj;simp only[Aho];rcases Ah2.1 h with rfl|h
  ·omega
  ·have:=rH h;omega
theorem Rh {a:RAtom}(hw:a.terms.length<=3)(h:(A6 a).length<=1000):short a:=by
 unfold A6 at h;simp only[Aho,Ahy]at h;refine⟨Aj6,Aj6,fun t ht=>?_⟩;have:=Yd ht;omega
theorem dN {x:RItem}(hw:Ck x)(h:(Bc x).length<=1000):x.short:=by
 obtain⟨-,h2,h3⟩:=hw;unfold Bc at h;cases ho:x.out with
 |true=>
  rw[if_pos ho]at h;obtain⟨-,q1,q2⟩:=h2 ho;simp only[Ahy]at h;exact⟨⟨Aj6,by simp[q1],by simp[q1]⟩,by simp[q2]⟩
 |false=>
  rw[if_neg (by rw[ho];simp)]at h;obtain⟨q1,-,q2,q3⟩:=h3 ho;unfold Dh at h;simp only[Aho]at h;refine⟨Rh q1.2.2.1 Aj6,fun a ha=>?_⟩;have aa:x.body≠[]:=by intro e;rw[e]at ha;cases ha
  rw[if_neg aa]at h;simp only[Ahy]at h;have hm:=Yd (List.mem_map_of_mem (f:=B8) ha);have hl:(A6 a).length<=(B8 a).length:=by unfold B8;simp
  exact Rh (q3 a ha).2.2.1 Aj6
theorem kW {l:List RItem}{x:RItem}(h:x∈l):(Bc x).length<=(Bu l).length:=by
 induction l with
 |nil=>cases h
 |cons y l ih=>
  unfold Bu at*
  simp only[Aik,Aho];rcases Ah2.1 h with rfl|h
  ·omega
  ·have:=ih h;omega
theorem Rm {s:Tx}{l:List RItem}{r:Tx}(hs:s.length<=1000)(h:Bq 16 s= .got l r):∀x∈l,x.short:=by
 obtain⟨h1,-,-,h4⟩:=Ex _ _ _ _ h;intro x hx;have:=kW hx;rw[<-h1]at this;exact dN (h4 x hx) Aj6
def encI (t:Tx):AV:=sc (.int .i64 (Ak t).2)
theorem iF {l:List Tx}{k:Nat}(h:k<l.length):(l.map encI).drop k=sc (.int .i64 (Ak l[k]).2)::(l.map encI).drop (k+1):=by
 rw[Ah0 (by simpa using h)];simp[encI]
def VL (l:List Tx):Prop:=∀t∈l,VT t/\Ad t=true
theorem qK {t u:Tx}(ht:VT t)(hu:VT u)(vt:Ad t=true)(vu:Ad u=true)(h:(Ak t).2=(Ak u).2):t=u:=by
 have:=yN ht hu vu;unfold Oi at this;rw[K0 ht,vt,h]at this;simpa using this.symm
theorem Pk (l:List Tx)(ids:Nat)(t:Tx)(hl:l.length<=10000000)(hL:VL l)(ht:VT t)(hv:Ad t=true)(σ:St):ACalls Tryz.prog 85 [sc (.int .i64 (Ak t).2),sl ids l.length (l.map encI)] σ fun x σ'=>x=sc (.int .i64 (Bw l t))/\σ'=σ:=by
 have aa:∀u∈l,(Ak u).2=(Ak t).2->u=t:=fun u hu h=>qK (hL u hu).1 ht (hL u hu).2 hv h;generalize aj:(Ak t).2=v at aa;have ao:Akc _:=aj;clear aj;refine Z9 19 [.tmp 4] Tryz.func85 ?_
 repeat' (first|refine Z1 ?_|(refine Z8 ?_;intro yb ya)|(refine Z4 ?_;clear ya yb)|refine Z3 ?_|exact Zt|(apply ya.out;clear ya yb))
 refine Af (fun m s' σ'=>∃i:Nat,m=l.length-i/\i<=l.length/\s' 0=sc (.int .i64 v)/\s' 7=sl ids l.length (l.map encI)/\s' 8=sc (.int .i64 l.length)/\s' 9=sc (.int .i64 i)/\σ'=σ/\Akc (∀a,a<i->l[a]?≠some t)) l.length
  ⟨0,Aj6,Aj6,rfl,rfl,rfl,rfl,rfl,fun a ha=>Aj6⟩ ?_
 rintro m s' σ' ⟨i,rfl,hi,h0,h7,h8,h9,hσ,ac⟩;subst hσ;by_cases ae:i<l.length
 ·have ai:=iF ae;have HX:Akc (l[i]?=some l[i]):=Agz ae;have ab:=aa l[i] (Ain ae);generalize l[i]=w at ai HX ab;generalize ah:(Ak w).2=vw at ai ab;have an:Akc _:=ah;have ap:Akc _:=ab;clear ah ab aa
  repeat' (first|refine Z1 ?_|(refine Z8 ?_;intro yb ya)|(refine Z4 ?_;clear ya yb)|(refine Z2 ?_ ?_<;>intro h af<;>try exact Xp)|refine Z3 ?_|exact Zt|(apply ya.out;clear ya yb))
  ·have hw:w=t:=ap.out (by simpa using h);have ad:t∈l:=by rw[<-hw];exact Ag1 HX.out
   exact⟨_,rfl,by rw[Bw,if_pos ad,Q2 ac.out (by rw[HX.out,hw])]⟩
  ·have hw:w≠t:=by
    rintro rfl;have:vw=v:=by rw[<-an.out,<-ao.out]
    simp[this]at h
   refine⟨l.length-(i+1),Aj6,i+1,rfl,Aj6,by simp,?_⟩;intro a ha;by_cases am:a=i
   ·subst am;rw[HX.out];simpa using hw
   ·exact ac.out a Aj6
 ·have hil:i=l.length:=Aj6;subst hil;have ak:=Vb ac.out;clear aa
  repeat' (first|refine Z1 ?_|(refine Z8 ?_;intro yb ya)|(refine Z4 ?_;clear ya yb)|(refine Z2 ?_ ?_<;>intro h af<;>try exact Xp)|refine Z3 ?_|exact Zt|(apply ya.out;clear ya yb))
  exact⟨_,rfl,by rw[Bw,if_neg ak]⟩
theorem Ada {l:List Tx}{t:Tx}(h:VL l)(ht:VT t):VL (F0 l t):=by
 unfold F0;split
 ·rename_i hc;intro u hu;rcases Ah8.1 hu with hu|hu
  ·exact h u hu
  ·simp at hu;subst hu;exact⟨ht,hc.1⟩
 ·exact h
theorem Qj (N:List Tx)(ls:List RAtom)(cs:List AV)(ida:Nat)(hE:EL (PC N) ls cs)(hV:∀a∈ls,VA a)(hn:ls.length<=1001)(a5:∀a∈ls,a.terms.length<=1000)(σ:St):
  ACalls Tryz.prog 150 [sl ida ls.length cs] σ fun r σ'=>∃id,r=sl id (Hn [] (ls.flatMap (·.terms))).length ((Hn [] (ls.flatMap (·.terms))).map encI)/\VL (Hn [] (ls.flatMap (·.terms)))/\Keep σ σ':=by
 have be:=EL.length Wo hE;refine Z9 39 [.tmp 2] Tryz.func150 ?_
 repeat' (first|refine Z1 ?_|(refine Z8 ?_;intro yb ya)|(refine Z4 ?_;clear ya yb)|(refine Z2 ?_ ?_<;>intro h ac<;>try exact Xp)|refine Z3 ?_|exact Zt|(apply ya.out;clear ya yb))
 refine Af (fun m s σ'=>∃(j i3:Nat) (l:List Tx),m=ls.length-j/\j<=ls.length/\s 3=sl i3 l.length (l.map encI)/\s 9=sl ida ls.length cs/\s 10=sc (.int .i64 ls.length)/\s 11=sc (.int .i64 j)/\Keep σ σ'/\Own σ σ' i3 l.length/\l.length<=j*1000/\Akc (VL l)/\Akc (l=Hn [] ((ls.take j).flatMap (·.terms)))) ls.length
  ⟨0,1,[],Aj6,Aj6,rfl,rfl,rfl,rfl,Keep.refl _,Own.nil _ _,by simp,(fun t ht=>by cases ht),by simp[Akc,Hn]⟩ ?_
 rintro m s σ' ⟨j,i3,l,rfl,hj,h3,h9,ao,an,hK,hO,hll,ad,hL⟩;by_cases am:j<ls.length
 ·have aa:=Agz am;have ay:=a5 ls[j] (Ain am);have ak:=hV ls[j] (Ain am);obtain⟨ha,ia,r,hd⟩:=qX hE aa;generalize ls[j]=a at hd aa ay ha ak;have HG:Akc (ls[j]?=some a):=aa;have bc:Akc (VA a):=ak;clear aa ak;have bd:=Et a.terms;have ap:=hK.nobj
  repeat' (first|refine Z1 ?_|(refine Z8 ?_;intro yb ya)|(refine Z4 ?_;clear ya yb)|(refine Z2 ?_ ?_<;>intro h ac<;>try exact Xp)|refine Z3 ?_|exact Zt|(apply ya.out;clear ya yb))
  refine Af (fun m s σ'=>∃(k i3:Nat) (l:List Tx),m=a.terms.length-k/\k<=a.terms.length/\s 3=sl i3 l.length (l.map encI)/\s 9=sl ida ls.length cs/\s 10=sc (.int .i64 ls.length)/\s 11=sc (.int .i64 j)/\s 16=sl ia a.terms.length (Au a.terms)/\s 17=sc (.int .i64 a.terms.length)/\s 18=sc (.int .i64 k)/\Keep σ σ'/\Own σ σ' i3 l.length/\l.length<=j*1000+k/\Akc (VL l)/\Akc (l=Hn [] ((ls.take j).flatMap (·.terms)++a.terms.take k))) a.terms.length
   ⟨0,i3,l,Aj6,Aj6,by simp[upd,h3],by simp[upd,h9],by simp[upd,ao],by simp[upd,an],Aj8,rfl,rfl,(hK.new _).put hK.nobj _,Own.put (Own.new hO _) _ _,Aj6,ad,by simpa using hL⟩ ?_
  clear hK hO hL hll ad h3 h9 ao an ap l;rintro m s σ' ⟨k,i3,l,rfl,hk,h3,h9,ao,an,bi,bh,bg,hK,hO,hll,ad,hL⟩;have ap:=hK.nobj;by_cases ae:k<a.terms.length
  ·have aa:=Agz ae;have ai:=bc.out a.terms[k] (Ain ae);obtain⟨r2,af⟩:=Fy aa;generalize a.terms[k]=w at af aa ai;have ab:Akc (Hn [] ((ls.take j).flatMap (·.terms)++a.terms.take (k+1))=F0 l w):=by
    rw[Akc,Ahd,aa,Ais,<-Ahq,sL,<-hL.out]
   have bb:Akc (VL (F0 l w)):=Ada ad.out ai;clear aa;have aj:=K0 ai;cases hv:Ad w with
   |true=>
    rw[hv]at aj;rw[aj]at af;have hP:=fun σ=>Pk l i3 w Aj6 ad.out ai hv σ;generalize au:(Ak w).2=w2 at af hP;have ba:Akc _:=au;clear au
    repeat' (first|refine Z1 ?_|(refine Z8 ?_;intro yb ya)|(refine Z4 ?_;clear ya yb)|(refine Z2 ?_ ?_<;>intro h ac<;>try exact Xp)|(refine Z5 ?_;refine Xi (hP _) ?_;rintro _ _ ⟨rfl,rfl⟩)|refine Z3 ?_|exact Zt|(apply ya.out;clear ya yb))
    ·have ah:Bw l w= -1:=by simpa using h
     have az:w∉l:=fun hm=>by rw[Bw,if_pos hm]at ah;omega
     have a7:Keep σ ((σ'.new [sc (.bool false),sc (.int .i64 0)]).put σ'.nobj [sc (.bool true),sc (.int .i64 w2)]):=(hK.new _).put hK.nobj _;refine Bg (by first|exact Qm) a7 (Own.put (Own.new hO _) _ _) (by decide) (by rfl) (by simp) (by rfl) (by rfl) (by decide) Aj6 Aj6 ?_;intro idn σn a6 bf a9 ax a8 aw;refine Z3 ?_
     repeat' (first|refine Z1 ?_|(refine Z8 ?_;intro yb ya)|(refine Z4 ?_;clear ya yb)|refine Z3 ?_|exact Zt|(apply ya.out;clear ya yb))
     have av:F0 l w=l++[w]:=by rw[F0,if_pos ⟨hv,az⟩]
     refine⟨a.terms.length-(k+1),Aj6,k+1,idn,l++[w],rfl,Aj6,?_,by simp,by simpa using a6,by simp;omega,by rw[<-av];exact bb,by rw[Akc,ab.out,av]⟩;simp[encI,ba.out]
    ·have ah:Bw l w≠ -1:=by simpa using h
     have a4:w∈l:=by
      by_cases hm:w∈l
      ·exact hm
      ·rw[Bw,if_neg hm]at ah;exact absurd rfl ah
     refine⟨a.terms.length-(k+1),Aj6,k+1,i3,l,rfl,Aj6,rfl,by simp,(hK.new _).put hK.nobj _,Own.put (Own.new hO _) _ _,Aj6,ad,?_⟩;rw[Akc,ab.out,F0,if_neg (fun h=>h.2 a4)]
   |false=>
    rw[hv]at aj;rw[aj]at af;generalize (Ak w).2=w2 at af
    repeat' (first|refine Z1 ?_|(refine Z8 ?_;intro yb ya)|(refine Z4 ?_;clear ya yb)|(refine Z2 ?_ ?_<;>intro h ac<;>try exact Xp)|refine Z3 ?_|exact Zt|(apply ya.out;clear ya yb))
    refine⟨a.terms.length-(k+1),Aj6,k+1,i3,l,rfl,Aj6,rfl,by simp,(hK.new _).put hK.nobj _,Own.put (Own.new hO _) _ _,Aj6,ad,?_⟩;rw[Akc,ab.out,F0,if_neg (fun h=>by rw[hv]at h;cases h.1)]
  ·have a0:k=a.terms.length:=Aj6;subst a0;rw[Ag7]at hL
   repeat' (first|refine Z1 ?_|(refine Z8 ?_;intro yb ya)|(refine Z4 ?_;clear ya yb)|(refine Z2 ?_ ?_<;>intro h ac<;>try exact Xp)|refine Z3 ?_|exact Zt|(apply ya.out;clear ya yb))
   exact⟨ls.length-(j+1),Aj6,j+1,i3,l,rfl,Aj6,rfl,by simp,hO,Aj6,ad,by rw[Akc,Ahd,HG.out];simpa using hL.out⟩
 ·have a3:j=ls.length:=Aj6;subst a3;rw[Ag7]at hL
  repeat' (first|refine Z1 ?_|(refine Z8 ?_;intro yb ya)|(refine Z4 ?_;clear ya yb)|(refine Z2 ?_ ?_<;>intro h ac<;>try exact Xp)|refine Z3 ?_|exact Zt|(apply ya.out;clear ya yb))
  rw[<-hL.out]
  first|exact⟨_,rfl,i3,rfl,ad.out,hK⟩|exact⟨_,rfl,i3,rfl,ad.out⟩
def J0 (l:List Tx)(t:Tx):List AV:=[sc (.bool (Ad t)),sc (.int .i64 (if Ad t=true then Bw l t else (Ak t).2))]
def Dn (l:List Tx)(ts:List Tx):List AV:=ts.flatMap (J0 l)
theorem lR (l ts:List Tx):(Dn l ts).length=ts.length*2:=by
 induction ts with
 |nil=>rfl
 |cons a ts ih=>unfold Dn at*;rw[Aik,Aho,ih];simp[J0];omega
theorem fT (l ts:List Tx)(x:Tx):Dn l (ts++[x])=Dn l ts++J0 l x:=by simp[Dn]
theorem Pj (l:List Tx)(ido:Nat)(kp:Int)(ids:Nat)(a:RAtom)(hl:l.length<=10000000)(hL:VL l)(hV:VA a)(hn:a.terms.length<=1000)(σ:St):
  ACalls Tryz.prog 144 [ag [sc (.int .i64 kp),sl ids a.terms.length (Au a.terms)],sl ido l.length (l.map encI)] σ fun r σ'=>∃id,r=ag [sc (.int .i64 kp),sl id a.terms.length (Dn l a.terms)]/\Keep σ σ':=by
 have a3:=Et a.terms;have az:Akc (VA a):=hV;clear hV;refine Z9 33 [.cell 4 122] Tryz.func144 ?_
 repeat' (first|refine Z1 ?_|(refine Z8 ?_;intro yb ya)|(refine Z4 ?_;clear ya yb)|refine Z3 ?_|exact Zt|(apply ya.out;clear ya yb))
 refine Af (fun m s σ'=>∃(k i3:Nat) (xs:List AV),m=a.terms.length-k/\k<=a.terms.length/\s 1=sl ido l.length (l.map encI)/\s 4=ptr (σ.nobj+1) 0/\s 5=ptr (σ.nobj+2) 0/\s 12=sl ids a.terms.length (Au a.terms)/\s 13=sc (.int .i64 a.terms.length)/\s 14=sc (.int .i64 k)/\Keep σ σ'/\σ.nobj+2<σ'.nobj/\σ'.obj (σ.nobj+1)=[sc (.int .i64 0),nilS]/\σ'.obj (σ.nobj+2)=[sc (.int .i64 kp),sl i3 k xs]/\Own σ σ' i3 k/\xs.length=k*2/\Akc (xs=Dn l (a.terms.take k))) a.terms.length
  ⟨0,1,[],Aj6,Aj6,by simp[upd,initS],Aj8,Aj8,Aj8,Aj8,rfl,?_,?_,?_,?_,Own.nil _ _,by simp,by simp[Akc,Dn]⟩ ?_
 ·exact ((((Keep.refl σ).new _).new _).new _).put Aj6 _
 ·simp only[Ab,Aa];omega
 ·rw[Ah Aj6,Ag Aka,Bs (by rw[Aa];omega) (by rw[Aa];omega)]
 ·rw[show σ.nobj+2=σ.nobj+1+1 by omega,Aj]
 rintro m s σ' ⟨k,i3,xs,rfl,hk,h1,h4,h5,a7,a6,a5,hK,a4,ax,aw,hO,au,hX⟩;have a0:=hK.nobj;by_cases av:k<a.terms.length
 ·have ab:=Agz av;have aj:=az.out a.terms[k] (Ain av);obtain⟨r2,ae⟩:=Fy ab;generalize a.terms[k]=w at ae ab aj;have ad:Akc (Dn l (a.terms.take (k+1))=xs++J0 l w):=by
   rw[Akc,Ahd,ab,Ais,fT,<-hX.out]
  clear ab;have ai:=K0 aj;cases hv:Ad w with
  |true=>
   rw[hv]at ai;rw[ai]at ae;have hP:=fun σ=>Pk l ido w hl hL aj hv σ;have ah:Akc (J0 l w=[sc (.bool true),sc (.int .i64 (Bw l w))]):=by simp[Akc,J0,hv]
   generalize (Ak w).2=w2 at ae hP
   repeat' (first|refine Z1 ?_|(refine Z8 ?_;intro yb ya)|(refine Z4 ?_;clear ya yb)|(refine Z2 ?_ ?_<;>intro h ac<;>try exact Xp)|(refine Z5 ?_;refine Xi (hP _) ?_;rintro _ _ ⟨rfl,rfl⟩)|refine Z3 ?_|exact Zt|(apply ya.out;clear ya yb))
   have am:Keep σ (((σ'.new [sc (.bool false),sc (.int .i64 0)]).put σ'.nobj [sc (.bool true),sc (.int .i64 w2)]).put σ'.nobj [sc (.bool true),sc (.int .i64 (Bw l w))]):=((hK.new _).put hK.nobj _).put hK.nobj _;refine Bg (by first|exact Ea) am (Own.put (Own.put (Own.new hO _) _ _) _ _) (by decide) (by rfl) au (by rfl) (by rfl) (by decide) Aj6 Aj6 ?_;intro idn σn ak an ap aa ao af;simp only[Ab,Aa]at aa;refine Z3 ?_
   repeat' (first|refine Z1 ?_|(refine Z8 ?_;intro yb ya)|(refine Z4 ?_;clear ya yb)|(refine Z2 ?_ ?_<;>intro h ac<;>try exact Xp)|refine Z3 ?_|exact Zt|(apply ya.out;clear ya yb))
   refine⟨a.terms.length-(k+1),Aj6,k+1,idn,_,rfl,Aj6,by simp,an.put Aj6 _,Aj6,rfl,Own.put ak _ _,by simp;omega,?_⟩;rw[Akc,ad.out,ah.out]
  |false=>
   rw[hv]at ai;rw[ai]at ae;have ah:Akc (J0 l w=[sc (.bool false),sc (.int .i64 (Ak w).2)]):=by simp[Akc,J0,hv]
   generalize (Ak w).2=w2 at ae ah
   repeat' (first|refine Z1 ?_|(refine Z8 ?_;intro yb ya)|(refine Z4 ?_;clear ya yb)|(refine Z2 ?_ ?_<;>intro h ac<;>try exact Xp)|refine Z3 ?_|exact Zt|(apply ya.out;clear ya yb))
   have am:Keep σ ((σ'.new [sc (.bool false),sc (.int .i64 0)]).put σ'.nobj [sc (.bool false),sc (.int .i64 w2)]):=(hK.new _).put hK.nobj _;refine Bg (by first|exact Ea) am (Own.put (Own.new hO _) _ _) (by decide) (by rfl) au (by rfl) (by rfl) (by decide) Aj6 Aj6 ?_;intro idn σn ak an ap aa ao af;simp only[Ab,Aa]at aa;refine Z3 ?_
   repeat' (first|refine Z1 ?_|(refine Z8 ?_;intro yb ya)|(refine Z4 ?_;clear ya yb)|(refine Z2 ?_ ?_<;>intro h ac<;>try exact Xp)|refine Z3 ?_|exact Zt|(apply ya.out;clear ya yb))
   refine⟨a.terms.length-(k+1),Aj6,k+1,idn,_,rfl,Aj6,by simp,an.put Aj6 _,Aj6,rfl,Own.put ak _ _,by simp;omega,?_⟩;rw[Akc,ad.out,ah.out]
 ·have ay:k=a.terms.length:=Aj6;subst ay;rw[Ag7]at hX
  repeat' (first|refine Z1 ?_|(refine Z8 ?_;intro yb ya)|(refine Z4 ?_;clear ya yb)|(refine Z2 ?_ ?_<;>intro h ac<;>try exact Xp)|refine Z3 ?_|exact Zt|(apply ya.out;clear ya yb))
  exact⟨_,rfl,i3,by rw[hX.out],hK.put Aj6 _⟩
theorem Sb (N:List Tx)(x:RItem)(c:List AV)(hc:PI N x c)(ho:x.out=true->x.body=[])(hx:x.fits)(hV:∀a∈Ae x,VA a)(σ:St):ACalls Tryz.prog 96 [ag c] σ fun r σ'=>∃id,r=sl id (A4 x).length ((A4 x).map encI)/\VL (A4 x)/\Keep σ σ':=by
 have hA:=Jf N x c hc ho (by have:=hx.1;omega);have ab:∀a∈Ae x,a.terms.length<=1000:=by
  intro a ha;unfold Ae at ha;rcases Ah8.1 ha with h|h
  ·split at h
   ·cases h
   ·simp at h;subst h;exact hx.2.1
  ·exact hx.2.2 a h
 have ac:=hx.atoms;have aa:=fun cs ida hE σ=>Qj N (Ae x) cs ida hE hV ac ab σ;obtain⟨hm,ih,id,b,hb,rfl⟩:=hc;unfold A4;generalize Hn [] ((Ae x).flatMap (·.terms))=lo at aa;refine Z9 6 [.tmp 2] Tryz.func96 ?_
 repeat' (first|refine Z1 ?_|(refine Z8 ?_;intro yb ya)|(refine Z4 ?_;clear ya yb)|(refine Z5 ?_;first|(refine Xi (hA _) ?_;rintro _ _ ⟨ida,cs,rfl,hE,af⟩)|(refine Xi (aa _ _ (by assumption) _) ?_;rintro _ _ ⟨id2,rfl,ad,ae⟩))|refine Z3 ?_|exact Zt|(apply ya.out;clear ya yb))
 exact⟨_,rfl,id2,rfl,Xs⟩
def RL (N l:List Tx)(a:RAtom)(c:List AV):Prop:=∃ids,c=[sc (.bool a.nt),sc (.int .i64 (N.idxOf a.pred:Nat)),sl ids a.terms.length (Dn l a.terms)]
theorem Aak {N l:List Tx}(a:RAtom)(c:List AV)(h:RL N l a c):c.length=3:=by obtain⟨ids,rfl⟩:=h;rfl
theorem Age {N l:List Tx}{ls:List RAtom}{cs:List AV}{i:Nat}{a:RAtom}(h:EL (RL N l) ls cs)(hi:ls[i]?=some a):∃ia r,cs.drop (i*3)=sc (.bool a.nt)::sc (.int .i64 (N.idxOf a.pred:Nat))::sl ia a.terms.length (Dn l a.terms)::r:=by
 obtain⟨c,r,⟨ia,rfl⟩,e⟩:=EL.get Aak h hi;exact⟨ia,r,e⟩
def RI (N l:List Tx)(x:RItem)(c:List AV):Prop:=∃ih id b,EL (RL N l) x.body b/\c=[sc (.bool x.out),sc (.int .i64 (N.idxOf x.head.pred:Nat)),sl ih x.head.terms.length (Dn l x.head.terms),sl id x.body.length b]
theorem cF (N:List Tx)(x:RItem)(c:List AV)(hc:PI N x c)(ho:x.out=true->x.body=[])(hx:x.fits)(hV:∀a∈Ae x,VA a)(bb:VA x.head)(bc:∀a∈x.body,VA a)(σ:St):
  ACalls Tryz.prog 93 [ag c] σ fun r σ'=>∃c',r=ag c'/\RI N (A4 x) x c'/\VL (A4 x)/\Keep σ σ':=by
 have a3:=fun σ=>Sb N x c hc ho hx hV σ;have aw:=xS hx;have bn:=hx.1;have a9:=hx.2.2;obtain⟨hm,ih,id,b,hb,rfl⟩:=hc;have bp:=EL.length Ds hb;have am:=fun lo ido (hl:lo.length<=10000000) hL σ=>Pj lo ido (N.idxOf x.head.pred:Nat) ih x.head hl hL bb hx.2.1 σ;have be:=fun lo ido (a:RAtom) ia ha (hl:lo.length<=10000000) hL hv σ=>Pj lo ido (N.idxOf a.pred:Nat) ia a hl hL hv (a9 a ha) σ;generalize A4 x=lo at a3 aw;have am:=fun ido hL σ=>am lo ido aw hL σ;refine Z9 39 [.cell 2 125] Tryz.func93 ?_
 repeat' (first|refine Z1 ?_|(refine Z8 ?_;intro yb ya)|(refine Z4 ?_;clear ya yb)|(refine Z5 ?_;refine Xi (a3 _) ?_;rintro _ _ ⟨ido,rfl,bd,ay⟩;(have ad:=ay.obj;have af:=ay.nobj;simp only[Aa]at af))|refine Z3 ?_|exact Zt|(apply ya.out;clear ya yb))
 rename_i σ1;have aj:σ1.obj σ.nobj=[sc (.bool x.out),sc (.int .i64 (N.idxOf x.head.pred:Nat)),sl ih x.head.terms.length (Au x.head.terms),sl id x.body.length b]:=by
  rw[ad _ Aka,Ag Aka,Ao]
 have ai:σ1.obj (σ.nobj+1)=[sc (.bool false),sc (.int .i64 0),nilS,nilS]:=by
  rw[ad _ Aka,Bs (by rw[Aa];omega) (by rw[Aa];omega)]
 have ao:Keep σ σ1:=Xs;clear ad ay;have a5:Akc (VL lo):=bd;refine Bt (Q:=fun e s σ'=>e= .normal/\∃o i2:Nat,s 1=ptr σ.nobj 0/\s 2=ptr (σ.nobj+1) 0/\s 3=sl ido lo.length (lo.map encI)/\s 4=ptr o 0/\σ.nobj+1<o/\o<σ'.nobj/\σ'.obj σ.nobj=[sc (.bool x.out),sc (.int .i64 (N.idxOf x.head.pred:Nat)),sl ih x.head.terms.length (Au x.head.terms),sl id x.body.length b]/\σ'.obj (σ.nobj+1)=[sc (.bool false),sc (.int .i64 0),nilS,nilS]/\σ'.obj o=[sc (.bool x.out),sc (.int .i64 (N.idxOf x.head.pred:Nat)),sl i2 x.head.terms.length (Dn lo x.head.terms),nilS]/\Keep σ σ') ?_ ?_
 ·refine A1 Ai (fun _=>True) [8] [0,1,2,3,4] 4 #[true,true,true,true,true,false,false,false,false] Aj9 (fun _ _ _ h=>by cases h.1) ?_;intro yb ya;refine Z3 ?_;refine ya.out _ ?_;clear ya yb;have hR2:=fun σ=>am ido a5.out σ;refine Ef (rs:=[5,7]) Aj9 (by simp) ?_;intro i hi;simp only[Ah2,Ail,Aj5]at hi;rcases hi with rfl|rfl
  ·refine Aq ?_;intro yb ya;refine Z3 ?_;refine ACalls.mono (hR2 _) ?_;rintro _ σ2 ⟨i2,rfl,ab⟩;have aa:=ab.obj;have ae:=ab.nobj;refine Z3 ?_;refine ya.out _ _ ⟨Ap ab,?_⟩;clear ya yb;refine Ef (rs:=[6,7]) Aj9 (by simp) ?_;intro i hi;simp only[Ah2,Ail,Aj5]at hi;rcases hi with rfl|rfl
   ·refine Aq ?_;intro yb ya;refine Z3 ?_;refine ya.out _ _ ⟨Ap ab,?_⟩;clear ya yb;refine Am (i:=7) Aj9 ?_;refine Aq ?_;intro yb ya;refine Z3 ?_;refine ya.out _ _ ⟨Ap (ab.new _),?_⟩;clear ya yb;refine Am (i:=8) Aj9 ?_;refine Aq ?_;intro yb ya;refine Z3 ?_;refine ya.out _ _ ⟨Br rfl,?_⟩;clear ya yb;refine A2 Aj9 ⟨rfl,σ2.nobj,i2,Aj8,Aj8,Aj8,Aj8,Aj6,Akb,?_,?_,Aj,?_⟩
    ·rw[Ah Aj6,Ag Aj6,aa _ Aj6,aj]
    ·rw[Ah Aj6,Ag Aj6,aa _ Aj6,ai]
    ·exact ((ao.trans ab).new _).put Aj6 _
   ·refine Aq ?_;intro yb ya;refine Z3 ?_;refine ya.out _ _ ⟨Ap (ab.new _),?_⟩;clear ya yb;refine Am (i:=6) Aj9 ?_;refine Aq ?_;intro yb ya;refine Z3 ?_;refine ya.out _ _ ⟨Ap (ab.new _),?_⟩;clear ya yb;refine Am (i:=8) Aj9 ?_;refine Aq ?_;intro yb ya;refine Z3 ?_;refine ya.out _ _ ⟨Br rfl,?_⟩;clear ya yb;refine A2 Aj9 ⟨rfl,σ2.nobj,i2,Aj8,Aj8,Aj8,Aj8,Aj6,Akb,?_,?_,Aj,?_⟩
    ·rw[Ah Aj6,Ag Aj6,aa _ Aj6,aj]
    ·rw[Ah Aj6,Ag Aj6,aa _ Aj6,ai]
    ·exact ((ao.trans ab).new _).put Aj6 _
  ·refine Aq ?_;intro yb ya;refine Z3 ?_;refine ya.out _ _ ⟨Ap ((Keep.refl _).new _),?_⟩;clear ya yb;refine Am (i:=5) Aj9 ?_;refine Aq ?_;intro yb ya;refine Z3 ?_;refine ACalls.mono (hR2 _) ?_;rintro _ σ2 ⟨i2,rfl,ab⟩;have aa:=ab.obj;have ae:=ab.nobj;simp only[Aa]at ae;refine Z3 ?_;refine ya.out _ _ ⟨Ap (((Keep.refl _).new _).trans ab),?_⟩;clear ya yb;refine Am (i:=6) Aj9 ?_;refine Aq ?_;intro yb ya;refine Z3 ?_;refine ya.out _ _ ⟨Ap (((Keep.refl _).new _).trans ab),?_⟩;clear ya yb;refine Am (i:=8) Aj9 ?_;refine Aq ?_;intro yb ya;refine Z3 ?_;refine ya.out _ _ ⟨Br rfl,?_⟩;clear ya yb;refine A2 Aj9 ⟨rfl,σ1.nobj,i2,Aj8,Aj8,Aj8,Aj8,Aj6,Akb,?_,?_,Aj,?_⟩
   ·rw[Ah Aj6,aa _ (by rw[Aa];omega),Ag Aj6,aj]
   ·rw[Ah Aj6,aa _ (by rw[Aa];omega),Ag Aj6,ai]
   ·exact ((ao.new _).trans ab).put Aj6 _
 ·rintro e s σ2 ⟨rfl,o,i2,h1,h2,h3,h4,bo,av,a6,ap,ob,hK⟩;have az:=hK.nobj;clear ao aj ai af am
  repeat' (first|refine Z1 ?_|(refine Z8 ?_;intro yb ya)|(refine Z4 ?_;clear ya yb)|refine Z3 ?_|exact Zt|(apply ya.out;clear ya yb))
  refine Af (fun m s σ'=>∃(k i3:Nat) (xs:List AV),m=x.body.length-k/\k<=x.body.length/\s 2=ptr (σ.nobj+1) 0/\s 3=sl ido lo.length (lo.map encI)/\s 4=ptr o 0/\s 18=sl id x.body.length b/\s 19=sc (.int .i64 x.body.length)/\s 20=sc (.int .i64 k)/\Keep σ σ'/\o<σ'.nobj/\σ'.obj (σ.nobj+1)=[sc (.bool false),sc (.int .i64 0),nilS,nilS]/\σ'.obj o=[sc (.bool x.out),sc (.int .i64 (N.idxOf x.head.pred:Nat)),sl i2 x.head.terms.length (Dn lo x.head.terms),sl i3 k xs]/\Own σ σ' i3 k/\xs.length=k*3/\Akc (EL (RL N lo) (x.body.take k) xs)) x.body.length
   ⟨0,1,[],Aj6,Aj6,by simp[upd,h2],by simp[upd,h3],by simp[upd,h4],Aj8,Aj8,rfl,hK,av,ap,ob,Own.nil _ _,by simp,rfl⟩ ?_
  clear h1 h2 h3 h4 a6 ap ob hK av az;rintro m s σ' ⟨k,i3,xs,rfl,hk,h2,h3,h4,bu,br,bq,hK,av,ap,ob,hO,a8,hX⟩;have az:=hK.nobj;by_cases a0:k<x.body.length
  ·have ac:=Agz a0;have ak:=Ain a0;obtain⟨ha,ia,r,hd⟩:=Ml hb ac;have hR:=fun σ=>be lo ido x.body[k] ia ak aw a5.out (bc _ ak) σ;generalize x.body[k]=a at hd ac ha hR ak;have HG:Akc (x.body[k]?=some a):=ac;clear ac ak
   repeat' (first|refine Z1 ?_|(refine Z8 ?_;intro yb ya)|(refine Z4 ?_;clear ya yb)|(refine Z2 ?_ ?_<;>intro h ax<;>try exact Xp)|(refine Z5 ?_;refine Xi (hR _) ?_;rintro _ _ ⟨i4,rfl,an⟩;(have a7:=an.obj;have au:=an.nobj;simp only[Aa,Ab]at au))|refine Z3 ?_|exact Zt)
   rename_i σ4;have bh:=((hK.new [sc (.bool false),sc (.int .i64 0),nilS]).put hK.nobj _).trans an;have bf:=Own.keep (Own.put (Own.new hO [sc (.bool false),sc (.int .i64 0),nilS]) σ'.nobj [sc (.bool a.nt),sc (.int .i64 (N.idxOf a.pred:Nat)),sl ia a.terms.length (Au a.terms)]) an;refine Bg (by first|exact Ek) ((bh.new _).put Aj6 _) (Own.put (Own.new bf _) _ _) (by decide) (by rfl) a8 (by rfl) (by rfl) (by decide) Aj6 Aj6 ?_;intro idn σn bg bi bm ah bl a4;simp only[Ab,Aa]at ah;refine Z3 ?_
   repeat' (first|refine Z1 ?_|(refine Z8 ?_;intro yb ya)|(refine Z4 ?_;clear ya yb)|refine Z3 ?_|exact Zt|(apply ya.out;clear ya yb))
   refine⟨x.body.length-(k+1),Aj6,k+1,idn,_,rfl,Aj6,by simp,bi.put Aj6 _,Aj6,rfl,Own.put bg _ _,by simp;omega,?_⟩;rw[Akc,Ahd,HG.out];exact EL.append hX.out (EL.single ⟨i4,rfl⟩)
  ·have ba:k=x.body.length:=Aj6;subst ba;rw[Ag7]at hX
   repeat' (first|refine Z1 ?_|(refine Z8 ?_;intro yb ya)|(refine Z4 ?_;clear ya yb)|(refine Z2 ?_ ?_<;>intro h ax<;>try exact Xp)|refine Z3 ?_|exact Zt|(apply ya.out;clear ya yb))
   exact⟨_,rfl,_,rfl,⟨i2,i3,xs,hX.out,rfl⟩,hK.put Aj6 _⟩
theorem Oe {k:Int}(h0:0<=k)(h1:k<26):Jp k=UInt8.ofNat (IntKind.u8.wrap (65+k)).toNat:=by
 unfold Jp;rw[Int.tmod_eq_of_lt h0 h1,i64w Aj6 Aj6]
def WT (l:List Tx)(a:RAtom):Prop:=∀w∈a.terms,DT w/\w.length<=1000/\(Ad w=true->0<=Bw l w/\Bw l w<26)
def WA (N l:List Tx)(a:RAtom):Prop:=a.pred∈N/\0<a.terms.length/\a.terms.length<=1000/\a.pred.length<=1000/\WT l a
structure WI (N:List Tx)(x:RItem):Prop where
 fits:x.fits
 short:x.short
 va:∀a∈Ae x,VA a
 vh:VA x.head
 vb:∀a∈x.body,VA a
 mem:x.head.pred∈N
 body:x.body.length<=5
 out:x.out=true->x.body=[]
 head:x.out=false->x.head.nt=false/\WA N (A4 x) x.head
 wa:∀a∈x.body,WA N (A4 x) a
theorem iC {acc:List Tx}{t u:Tx}(h:t∈acc\/(t=u/\Ad u=true)):t∈F0 acc u:=by
 unfold F0;split
 ·rcases h with h|⟨rfl,-⟩
  ·exact Ah8.2 (.inl h)
  ·exact Ah8.2 (.inr (by simp))
 ·rename_i hn;rcases h with h|⟨rfl,hv⟩
  ·exact h
  ·exact Classical.byContradiction fun hm=>hn ⟨hv,hm⟩
theorem Pp:∀(ts acc:List Tx) (t:Tx),(t∈acc\/(t∈ts/\Ad t=true))->t∈Hn acc ts
 |[],acc,t,h=>by
  rcases h with h|⟨h,-⟩
  ·exact h
  ·cases h
 |u::ts,acc,t,h=>by
  show t∈Hn (F0 acc u) ts;apply Pp ts;rcases h with h|⟨h,hv⟩
  ·exact .inl (iC (.inl h))
  ·rcases Ah2.1 h with rfl|h
   ·exact .inl (iC (.inr ⟨rfl,hv⟩))
   ·exact .inr ⟨h,hv⟩
theorem iW {ls:List RAtom}(h:∀a∈ls,a.terms.length<=3):(ls.flatMap (·.terms)).length<=ls.length*3:=by
 induction ls with
 |nil=>simp
 |cons a ls ih=>
  have h2:=ih fun b hb=>h b (by simp[hb]);have h3:=h a (by simp);simp only[Aik,Aho,Ahy];omega
theorem Ar {x:RItem}{a:RAtom}(h:(x.out=false/\a=x.head)\/a∈x.body):a∈Ae x:=by
 unfold Ae;rcases h with⟨h,rfl⟩|h
 ·exact Ah8.2 (.inl (by rw[h];simp))
 ·exact Ah8.2 (.inr h)
theorem Mu {x:RItem}(hw:Ck x){a:RAtom}(ha:a∈Ae x){w:Tx}(hm:w∈a.terms)(hv:Ad w=true):0<=Bw (A4 x) w/\Bw (A4 x) w<26:=by
 have h1:w∈A4 x:=Pp _ _ _ (.inr ⟨Ah7.2 ⟨a,ha,hm⟩,hv⟩);have h2:=Air h1;have h3:=U9 ((Ae x).flatMap (·.terms)) [];obtain⟨q1,q2,q3⟩:=hw;have h4:(Ae x).length<=6/\∀b∈Ae x,b.terms.length<=3:=by
  cases ho:x.out with
  |true=>
   obtain⟨-,-,e⟩:=q2 ho;simp[Ae,ho,e]
  |false=>
   obtain⟨e1,-,e2,e3⟩:=q3 ho;refine⟨by simp[Ae,ho];omega,fun b hb=>?_⟩;simp[Ae,ho]at hb;rcases hb with rfl|hb
   ·exact e1.2.2.1
   ·exact (e3 b hb).2.2.1
 have h5:=iW h4.2;have h6:(A4 x).length<=18:=by
  unfold A4;rw[Ahx,Ahn]at h3;omega
 unfold Bw;rw[if_pos h1];omega
theorem Afd {t:Tx}{N:List Tx}{l:List RItem}{cs:List AV}{r:Tx}(hl:t.length<=1000)(hp:Bq 16 t= .got l r)(hB:Bk N l cs)(af:∀x∈l,Ck x):∀x∈l,WI N x:=by
 intro x hx;have aa:=Qw 16 t l r hp x hx;have ae:=Iv (T:=DT) Pm 16 t l r hp x hx;have ab:=Rm hl hp x hx;have hm:=Hh hB.el x hx;have hw:=af x hx;have hf:=hB.fits x hx;have ac:∀a,a∈Ae x->a.pred∈N->D1 a->short a->a.terms.length<=1000->WA N (A4 x) a:=fun a ha hN hW hs hn=>
  ⟨hN,Aiw.2 hW.2.1,hn,hs.1,fun w hm=>⟨ae a ha w hm,hs.2.2 w hm,fun hv=>Mu hw ha hm hv⟩⟩
 refine⟨hf,ab,aa,?_,?_,hm.1,?_,hB.out x hx,?_,?_⟩
 ·cases ho:x.out with
  |true=>intro w ad;rw[(hw.2.1 ho).2.1]at ad;cases ad
  |false=>exact aa x.head (Ar (.inl ⟨ho,rfl⟩))
 ·exact fun a ha=>aa a (Ar (.inr ha))
 ·cases ho:x.out with
  |true=>rw[hB.out x hx ho];simp
  |false=>exact (hw.2.2 ho).2.2.1
 ·intro ho;obtain⟨e1,e2,-⟩:=hw.2.2 ho;exact⟨e2,ac x.head (Ar (.inl ⟨ho,rfl⟩)) hm.1 e1 ab.1 hf.2.1⟩
 ·intro a ha;have ho:x.out=false:=by
   cases h:x.out with
   |false=>rfl
   |true=>rw[hB.out x hx h]at ha;cases ha
  exact ac a (Ar (.inr ha)) (hm.2 a ha) ((hw.2.2 ho).2.2.2 a ha) (ab.2 a ha) (hf.2.2 a ha)
def Cs (l:List Tx)(a:RAtom):RAtom:={nt:=a.nt,pred:=a.pred,terms:=a.terms.map (Gt l)}
def ren (x:RItem):RItem:={out:=x.out,head:=Cs (A4 x) x.head,body:=x.body.map (Cs (A4 x))}
theorem E8 {k:Int}(h0:0<=k)(h1:k<26):((Jp k).toNat:Int)=65+k:=by
 rw[Oe h0 h1,u8w Aj6 Aj6];rw[UInt8.toNat_ofNat_of_lt' (by show (65+k).toNat<256;omega)];omega
theorem Eh {k:Int}(h0:0<=k)(h1:k<26):Bl (Jp k).toNat=true:=by
 rw[E8 h0 h1];simp[Bl];omega
theorem Jn {l:List Tx}{w:Tx}(hv:Ad w=true->0<=Bw l w/\Bw l w<26):Ad (Gt l w)=Ad w:=by
 unfold Gt;split
 ·rename_i h;obtain⟨h0,h1⟩:=hv h;rw[h];exact Eh h0 h1
 ·rfl
theorem Aey {l:List Tx}{w:Tx}(hD:DT w)(hv:Ad w=true->0<=Bw l w/\Bw l w<26):Ak (Gt l w)=(Ad w,if Ad w=true then Bw l w else (Ak w).2):=by
 unfold Gt;split
 ·rename_i h;obtain⟨h0,h1⟩:=hv h;rw[Dz (Eh h0 h1),E8 h0 h1,h];congr 1;omega
 ·rename_i h;have h':Ad w=false:=by simpa using h
  rw[h'];cases w with
  |nil=>rfl
  |cons b r=>rw[Mb h']
theorem Adx {N l:List Tx}{a:RAtom}(h:WA N l a):∀w∈a.terms,DT w/\(Ad w=true->0<=Bw l w/\Bw l w<26):=fun w hw=>⟨(h.2.2.2.2 w hw).1,(h.2.2.2.2 w hw).2.2⟩
theorem uK (l:List Tx):∀(ts:List Tx) (k:Nat),0<k->Kg l k ts=Bz (ts.map (Gt l))
 |[],k,_=>rfl
 |t::ts,k,hk=>by
  rw[Kg,uK l ts (k+1) Aj6,wrS,if_neg Aj6];simp[Bz]
theorem qY {l ts:List Tx}(h:ts≠[]):Kg l 0 ts=40::Bj (ts.map (Gt l)):=by
 cases ts with
 |nil=>exact absurd rfl h
 |cons t ts=>rw[Kg,uK l ts 1 Aj6];simp[wrS,Bj]
theorem Ta {l:List Tx}{a:RAtom}(h:a.terms≠[]):Io l a=B8 (Cs l a):=by
 unfold Io B8 A6;rw[qY h];cases ha:a.nt<;>simp[Cs,ha]
theorem uM {l:List Tx}:∀(ls:List RAtom) (k:Nat),0<k->(∀a∈ls,a.terms≠[])->H3 l k ls=Bz ((ls.map (Cs l)).map B8)
 |[],k,_,_=>rfl
 |a::ls,k,hk,h=>by
  rw[H3,uM ls (k+1) Aj6 (fun a' h'=>h a' (by simp[h'])),rA,if_neg Aj6,Ta (h a (by simp))];simp[Bz]
theorem qZ {l:List Tx}{ls:List RAtom}(h:∀a∈ls,a.terms≠[]):H3 l 0 ls=if ls=[]then []else 58::45::Bj ((ls.map (Cs l)).map B8):=by
 cases ls with
 |nil=>rfl
 |cons a ls=>
  rw[H3,uM ls 1 Aj6 (fun a' h'=>h a' (by simp[h'])),Ta (h a (by simp)),if_neg (by simp)];simp[rA,Bj]
theorem Qg {x:RItem}(hw:Ck x):Dg x=Bc (ren x)++[46]:=by
 obtain⟨-,h2,h3⟩:=hw;unfold Dg Bc;cases ho:x.out with
 |true=>simp[ren,Cs,ho]
 |false=>
  obtain⟨q1,q2,-,q3⟩:=h3 ho;rw[if_neg (by simp),if_neg (by simp[ren,ho]),Ta q1.2.1,qZ (fun a ha=>(q3 a ha).2.1),Tp (by simpa[Cs]using q2)];unfold Dh;simp[ren]
theorem Zc {N l:List Tx}{a:RAtom}(h:D1 a)(hw:∀w∈a.terms,Ad w=true->0<=Bw l w/\Bw l w<26):D1 (Cs l a):=by
 obtain⟨h1,h2,h3,h4⟩:=h;refine⟨h1,by simpa[Cs]using h2,by simpa[Cs]using h3,fun t ht=>?_⟩;simp only[Cs,Aib]at ht;obtain⟨w,hm,rfl⟩:=ht;unfold Gt;split
 ·rename_i hv;obtain⟨q0,q1⟩:=hw w hm hv;exact⟨by simp,fun b hb=>by simp at hb;subst hb;exact .inl (Eh q0 q1)⟩
 ·exact h4 w hm
theorem Mp {N:List Tx}{x:RItem}(hw:Ck x)(hi:WI N x):Ck (ren x):=by
 obtain⟨h1,h2,h3⟩:=hw;refine⟨h1,fun ho=>?_,fun ho=>?_⟩
 ·obtain⟨q1,q2,q3⟩:=h2 ho;exact⟨q1,by simp[ren,Cs,q2],by simp[ren,q3]⟩
 ·obtain⟨q1,q2,q3,q4⟩:=h3 ho;refine⟨Zc (N:=N) q1 (fun w hm=>(Adx (hi.head ho).2 w hm).2),q2,by simpa[ren]using q3,fun a ha=>?_⟩;simp only[ren,Aib]at ha;obtain⟨a',aa,rfl⟩:=ha;exact Zc (N:=N) (q4 a' aa) (fun w hm=>(Adx (hi.wa a' aa) w hm).2)
theorem Sr {l:List RItem}(hw:∀x∈l,Ck x):Cj l=Bu (l.map ren):=by
 unfold Cj Bu;induction l with
 |nil=>rfl
 |cons x l ih=>
  rw[Aik,Ahj,Aik,Qg (hw x (by simp)),ih fun y hy=>hw y (by simp[hy])]
theorem iO {N:List Tx}{l:List RItem}(hw:∀x∈l,Ck x)(hi:∀x∈l,WI N x):Cv (Cj l)=l.map ren:=by
 have h2:∀y∈l.map ren,Ck y:=fun y hy=>by
  obtain⟨x,hx,rfl⟩:=Aib.1 hy;exact Mp (hw x hx) (hi x hx)
 rw[Sr hw];unfold Cv;rw[aJ _ h2,Ahg]
 conv=>rhs;rw[<-Aic (l.map ren)]
 apply Aid;intro y hy;exact (L4 (h2 y hy)).1
theorem kX (l:List Tx)(w:Tx)(hD:DT w)(hv:Ad w=true->0<=Bw l w/\Bw l w<26)(σ:St):ACalls Tryz.prog 149 [ag (J0 l w)] σ fun r σ'=>r=str (Gt l w)/\Keep σ σ':=by
 have ab:∀z:UInt8,({data:=#[z]}:ByteArray)=bs [z]:=fun _=>rfl;unfold J0;cases hb:Ad w with
 |true=>
  obtain⟨h0,h1⟩:=hv hb;have hL:Akc (Gt l w=[UInt8.ofNat (IntKind.u8.wrap (65+Bw l w)).toNat]):=by rw[Akc,Gt,if_pos hb,Oe h0 h1]
  rw[if_pos rfl];generalize Bw l w=k at h0 h1 hL;clear hv;refine Z9 14 [.tmp 2] Tryz.func149 ?_
  repeat' (first|refine Z1 ?_|(refine Z8 ?_;intro yb ya)|(refine Z4 ?_;clear ya yb)|(refine Z2 ?_ ?_<;>intro h aa<;>try exact Xp)|refine Z7 ?_|exact Zt|(apply ya.out;clear ya yb))
  exact⟨_,rfl,by rw[hL.out],Xs⟩
 |false=>
  obtain⟨d1,d2,d3⟩:Lib.itoa (Ak w).2=w/\0<=(Ak w).2/\(Ak w).2<=999:=by
   rcases hD with h|h
   ·rw[hb]at h;cases h
   ·exact h.2
  have hI:=fun σ=>Q0 (Ak w).2 d2 Aj6 σ;rw[if_neg (by simp)];rw[d1]at hI;have hL:Akc (Gt l w=w):=by rw[Akc,Gt,if_neg (by rw[hb];simp)]
  generalize (Ak w).2=v at hI;clear hv hD;refine Z9 14 [.tmp 2] Tryz.func149 ?_
  repeat' (first|refine Z1 ?_|(refine Z8 ?_;intro yb ya)|(refine Z4 ?_;clear ya yb)|(refine Z2 ?_ ?_<;>intro h aa<;>try exact Xp)|(refine Z5 ?_;refine Xi (hI _) ?_;rintro _ _ ⟨rfl,rfl⟩)|refine Z7 ?_|exact Zt|(apply ya.out;clear ya yb))
  exact⟨_,rfl,by rw[hL.out],Xs⟩
theorem lS {l ts:List Tx}{k:Nat}{w:Tx}(h:ts[k]?=some w):∃r,(Dn l ts).drop (k*2)=sc (.bool (Ad w))::sc (.int .i64 (if Ad w=true then Bw l w else (Ak w).2))::r:=by
 have hE:∀ts:List Tx,EL (fun w c=>c=J0 l w) ts (Dn l ts):=by
  intro ts;induction ts with
  |nil=>rfl
  |cons a l ih=>exact⟨J0 _ a,Dn _ l,rfl,ih,by simp[Dn]⟩
 obtain⟨c,r,rfl,e⟩:=EL.get (z:=2) (fun a c h=>by rw[h];rfl) (hE ts) h;exact⟨r,e⟩
def prT (l:List Tx)(k:Nat)(ts:List Tx):Tx:=if k=0 then [40]else Kg l 0 (ts.take k)
theorem wX {l ts:List Tx}{k:Nat}{w:Tx}(h:ts[k]?=some w):prT l (k+1) ts=prT l k ts++((if k=0 then []else [44])++Gt l w):=by
 have hk:k<ts.length:=(Agy.1 h).1;unfold prT;rw[if_neg Aj6,Ahd,h,Ais,X3,Ahp,Ahu Aj6,Ahn];by_cases h0:k=0
 ·subst h0;simp[Kg,wrS]
 ·rw[if_neg h0,if_neg h0];simp[wrS,h0]
theorem Wc (N l:List Tx)(idn ids:Nat)(a:RAtom)(ha:a.pred∈N)(hN:N.length<=2000)(hp:0<a.terms.length)(hn:a.terms.length<=1000)(hpl:a.pred.length<=1000)(hw:WT l a)(σ:St):
  ACalls Tryz.prog 182 [ag [sc (.int .i64 (N.idxOf a.pred:Nat)),sl ids a.terms.length (Dn l a.terms)],sl idn N.length (N.map str)] σ fun r σ'=>r=str (a.pred++Kg l 0 a.terms++[41])/\Keep σ σ':=by
 have av:=lR l a.terms;have az:({data:=#[40]}:ByteArray)=bs [40]:=rfl;have ax:({data:=#[44]}:ByteArray)=bs [44]:=rfl;have ay:({data:=#[41]}:ByteArray)=bs [41]:=rfl;have ai:=Air ha;have ap:(N.map str).drop (N.idxOf a.pred)=str a.pred::(N.map str).drop (N.idxOf a.pred+1):=by
  have:=Ez ai;rwa[Aiq ai]at this
 generalize N.idxOf a.pred=ix at ai ap;refine Z9 33 [.tmp 4] Tryz.func182 ?_
 repeat' (first|refine Z1 ?_|(refine Z8 ?_;intro yb ya)|(refine Z4 ?_;clear ya yb)|refine Z7 ?_|exact Zt|(apply ya.out;clear ya yb))
 refine Af (fun m s σ'=>∃(k:Nat) (acc:Tx),m=a.terms.length-k/\k<=a.terms.length/\s 5=str acc/\s 15=sl ids a.terms.length (Dn l a.terms)/\s 16=sc (.int .i64 a.terms.length)/\s 17=sc (.int .i64 k)/\Keep σ σ'/\acc.length<=1001+k*1001/\Akc (acc=a.pred++prT l k a.terms)) a.terms.length
  ⟨0,a.pred++[40],Aj6,Aj6,Aj8,Aj8,Aj8,rfl,Xs,by simp;omega,by simp[Akc,prT]⟩ ?_
 rintro m s σ' ⟨k,acc,rfl,hk,h5,a4,a3,a0,hK,aw,hA⟩;have au:=hK.nobj;by_cases aj:k<a.terms.length
 ·have ab:=Agz aj;obtain⟨w1,w2,w3⟩:=hw a.terms[k] (Ain aj);obtain⟨r,hd⟩:=lS (l:=l) ab;have aa:Akc (a.pred++prT l (k+1) a.terms=acc++((if k=0 then []else [44])++Gt l a.terms[k])):=by
   rw[Akc,wX ab,hA.out,Ahq]
  have am:=oE l a.terms[k] w2;have hT:=fun σ=>kX l a.terms[k] w1 w3 σ;unfold J0 at hT;generalize Gt l a.terms[k]=tw at aa hT am;generalize (if Ad a.terms[k]=true then Bw l a.terms[k]else (Ak a.terms[k]).2)=vw at hT hd;generalize Ad a.terms[k]=bw at hT hd;clear ab w1 w2 w3;by_cases ad:k=0
  ·have ao:decide ((0:Int)<(k:Int))=false:=by simp[ad]
   have aa:Akc (a.pred++prT l (k+1) a.terms=acc++tw):=by rw[Akc,aa.out,if_pos ad];simp
   clear ad
   repeat' (first|refine Z1 ?_|(refine Z8 ?_;intro yb ya)|(refine Z4 ?_;clear ya yb)|(refine Z2 ?_ ?_<;>intro h ae<;>try exact Xp)|(refine Z5 ?_;refine Xi (hT _) ?_;rintro _ _ ⟨rfl,ac⟩;(have af:=ac.obj;have ah:=ac.nobj))|refine Z7 ?_|exact Zt|(apply ya.out;clear ya yb))
   exact⟨a.terms.length-(k+1),Aj6,k+1,acc++tw,rfl,Aj6,rfl,by simp,((hK.new _).put hK.nobj _).trans ac,by simp only[Aho];omega,by rw[Akc,aa.out]⟩
  ·have ao:decide ((0:Int)<(k:Int))=true:=by simp;omega
   have aa:Akc (a.pred++prT l (k+1) a.terms=acc++([44]++tw)):=by rw[Akc,aa.out,if_neg ad]
   clear ad
   repeat' (first|refine Z1 ?_|(refine Z8 ?_;intro yb ya)|(refine Z4 ?_;clear ya yb)|(refine Z2 ?_ ?_<;>intro h ae<;>try exact Xp)|(refine Z5 ?_;refine Xi (hT _) ?_;rintro _ _ ⟨rfl,ac⟩;(have af:=ac.obj;have ah:=ac.nobj))|refine Z7 ?_|exact Zt|(apply ya.out;clear ya yb))
   exact⟨a.terms.length-(k+1),Aj6,k+1,acc++([44]++tw),rfl,Aj6,by rw[Ahq],by simp,((hK.new _).put hK.nobj _).trans ac,by simp only[Aho,Aii];omega,by rw[Akc,aa.out]⟩
 ·have an:k=a.terms.length:=Aj6;subst an;have ak:acc=a.pred++Kg l 0 a.terms:=by rw[hA.out,prT,if_neg Aj6,Ag7]
  have HA:Akc _:=ak;clear hA ak
  repeat' (first|refine Z1 ?_|(refine Z8 ?_;intro yb ya)|(refine Z4 ?_;clear ya yb)|(refine Z2 ?_ ?_<;>intro h ae<;>try exact Xp)|refine Z7 ?_|exact Zt|(apply ya.out;clear ya yb))
  first
  |exact⟨_,rfl,by rw[HA.out],hK⟩
  |exact⟨_,rfl,by rw[HA.out]⟩
end Go.Proofs.YtmoeoppbmhfbpabGreatDoorL
