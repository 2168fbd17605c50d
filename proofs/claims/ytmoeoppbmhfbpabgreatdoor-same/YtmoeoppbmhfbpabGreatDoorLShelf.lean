import Derived.Shelf.Strconv.Itoa3
import Derived.Test.YtmoeoppbmhfbpabGreatDoorProg
import Derived.Test.YtmoeoppbmhfbpabGreatDoorLAbsWp
import Derived.Test.YtmoeoppbmhfbpabGreatDoorLProgP
set_option maxHeartbeats 16000000
set_option maxRecDepth 100000
set_option linter.all false
namespace Go.Proofs
open Go.Shelf
def Tryz.laysM171_ren:Go.Shelf.Ren:=⟨fun|171=>88|243=>143|246=>191|283=>228|284=>229|285=>230|286=>231|129=>259|317=>258|318=>260|319=>261|320=>262|337=>267|338=>268|n=>n,fun|3=>3|9=>9|2=>2|4=>4|171=>276|0=>0|53=>277|37=>87|5=>5|173=>280|212=>298|51=>299|20=>20|213=>300|46=>301|232=>306|233=>307|n=>n,fun|17=>0|18=>1|19=>2|n=>n⟩
theorem Tryz.laysM171:Go.Proofs.LaysM.n171 Tryz.prog Tryz.laysM171_ren:={
 mixed:=by kernel_rfl
 f129:=Tryz.func259.trans (congrArg some (by kernel_rfl))
 f171:=Tryz.func88.trans (congrArg some (by kernel_rfl))
 f243:=Tryz.func143.trans (congrArg some (by kernel_rfl))
 f246:=Tryz.func191.trans (congrArg some (by kernel_rfl))
 f283:=Tryz.func228.trans (congrArg some (by kernel_rfl))
 f284:=Tryz.func229.trans (congrArg some (by kernel_rfl))
 f285:=Tryz.func230.trans (congrArg some (by kernel_rfl))
 f286:=Tryz.func231.trans (congrArg some (by kernel_rfl))
 f317:=Tryz.func258.trans (congrArg some (by kernel_rfl))
 f318:=Tryz.func260.trans (congrArg some (by kernel_rfl))
 f319:=Tryz.func261.trans (congrArg some (by kernel_rfl))
 f320:=Tryz.func262.trans (congrArg some (by kernel_rfl))
 f337:=Tryz.func267.trans (congrArg some (by kernel_rfl))
 f338:=Tryz.func268.trans (congrArg some (by kernel_rfl))
 t0:=Tryz.underlying0
 a0:=Tryz.isAgg0
 z0:=Tryz.sizeOf0
 v0:=Tryz.zeroValue0
 t2:=Tryz.underlying2
 a2:=Tryz.isAgg2
 z2:=Tryz.sizeOf2
 v2:=Tryz.zeroValue2
 t3:=Tryz.underlying3
 a3:=Tryz.isAgg3
 z3:=Tryz.sizeOf3
 v3:=Tryz.zeroValue3
 t4:=Tryz.underlying4
 a4:=Tryz.isAgg4
 z4:=Tryz.sizeOf4
 v4:=Tryz.zeroValue4
 t5:=Tryz.underlying5
 a5:=Tryz.isAgg5
 z5:=Tryz.sizeOf5
 v5:=Tryz.zeroValue5
 t9:=Tryz.underlying9
 a9:=Tryz.isAgg9
 z9:=Tryz.sizeOf9
 v9:=Tryz.zeroValue9
 t20:=Tryz.underlying20
 a20:=Tryz.isAgg20
 z20:=Tryz.sizeOf20
 v20:=Tryz.zeroValue20
 t37:=Tryz.underlying87
 a37:=Tryz.isAgg87
 z37:=Tryz.sizeOf87
 v37:=Tryz.zeroValue87
 t46:=Tryz.underlying301
 a46:=Tryz.isAgg301
 z46:=Tryz.sizeOf301
 v46:=Tryz.zeroValue301
 t51:=Tryz.underlying299
 a51:=Tryz.isAgg299
 z51:=Tryz.sizeOf299
 v51:=Tryz.zeroValue299
 t53:=Tryz.underlying277
 a53:=Tryz.isAgg277
 z53:=Tryz.sizeOf277
 v53:=Tryz.zeroValue277
 t171:=Tryz.underlying276
 a171:=Tryz.isAgg276
 z171:=Tryz.sizeOf276
 v171:=Tryz.zeroValue276
 t173:=Tryz.underlying280
 a173:=Tryz.isAgg280
 z173:=Tryz.sizeOf280
 v173:=Tryz.zeroValue280
 t212:=Tryz.underlying298
 a212:=Tryz.isAgg298
 z212:=Tryz.sizeOf298
 v212:=Tryz.zeroValue298
 t213:=Tryz.underlying300
 a213:=Tryz.isAgg300
 z213:=Tryz.sizeOf300
 t232:=Tryz.underlying306
 a232:=Tryz.isAgg306
 z232:=Tryz.sizeOf306
 v232:=Tryz.zeroValue306
 t233:=Tryz.underlying307
 a233:=Tryz.isAgg307
 z233:=Tryz.sizeOf307
 v233:=Tryz.zeroValue307
 g17:=by kernel_rfl
 g18:=by kernel_rfl
 g19:=by kernel_rfl
 i0:=by kernel_rfl
 i2:=by kernel_rfl
 i3:=by kernel_rfl
 i4:=by kernel_rfl
 i5:=by kernel_rfl
 i9:=by kernel_rfl
 i20:=by kernel_rfl
 i37:=by kernel_rfl
 i46:=by kernel_rfl
 i51:=by kernel_rfl
 i53:=by kernel_rfl
 i171:=by kernel_rfl
 i173:=by kernel_rfl
 i212:=by kernel_rfl
 i232:=by kernel_rfl
 i233:=by kernel_rfl
 m17:=by kernel_rfl
 m18:=by kernel_rfl
 m19:=by kernel_rfl}
end Go.Proofs
namespace Go.Proofs.YtmoeoppbmhfbpabGreatDoorL
open Go.Abs Go.Sort
open Go.RowKit (Below)
theorem L5 (w:World)(k:Nat)(os:Array Obj){b:Nat}(h:b<w.heap.size):(grow (w.drewN k) os).heap[b]?=w.heap[b]?:=by
 show (w.heap++os)[b]?=w.heap[b]?;exact Array.getElem?_append_left h
theorem sY (w:World)(k:Nat)(os:Array Obj){b o:Nat}(h:b<w.heap.size):(grow (w.drewN k) os).cell? ⟨b,o,none⟩=w.cell? ⟨b,o,none⟩:=by
 unfold World.cell?;rw[L5 w k os h]
theorem sU {G:Gh}{σ:St}{w:World}(I:Abs.Inv G σ w)(k:Nat)(os:Array Obj):Abs.Inv G σ (grow (w.drewN k) os)/\Ext G σ w G σ (grow (w.drewN k) os):=by
 have E:Ext G σ w G σ (grow (w.drewN k) os):=⟨rfl,rfl,Agi _,fun _ _=>rfl,Agi _,fun _ _=>⟨Agi _,rfl,fun _=>⟨rfl,rfl⟩⟩,fun b off p=>⟨p,sY w k os (I.perlt _ _ p)⟩,fun o h=>⟨Agi _,fun _=>L5 w k os (I.blk_lt h)⟩⟩;have aa:w.heap.size<=(grow (w.drewN k) os).heap.size:=by
  show w.heap.size<=(w.heap++os).size;rw[Array.size_append];omega
 refine⟨⟨fun p hp=>?_,I.inj,fun k hk=>?_,I.linj,I.apart,fun b off p=>Agk (I.perlt _ _ p) aa,I.perlo,?_,Agj I.le aa,I.hyp⟩,E⟩
 ·obtain⟨h1,h2,h3⟩:=I.obj p hp;refine⟨h1,Agk h2 aa,fun ab=>?_⟩;obtain⟨⟨arr,e,hb,ha⟩,h4⟩:=h3 ab;exact⟨⟨arr,e,by rw[L5 _ _ _ (I.blk_lt hp)];exact hb,VR.all E ha⟩,h4⟩
 ·obtain⟨h1,⟨arr,e,hb,ha⟩,h3⟩:=I.lin k hk;exact⟨h1,⟨arr,e,by rw[L5 _ _ _ (I.cur_lt hk)];exact hb,ha⟩,h3⟩
 ·have hb:=I.below;have hl:=I.le;exact⟨hb.os,hb.tape,hb.output,Agj hb.size aa,fun j hj=>by rw[L5 _ _ _ Ajm];exact hb.block j hj⟩
theorem Q0 (n:Int)(h0:0<=n)(h1:n<=9999)(σ:St):ACalls Tryz.prog 88 [sc (.int .i64 n)] σ fun x σ'=>x=str (Lib.itoa n)/\σ'=σ:=by
 refine⟨Ajp,fun G w cargs I A=>?_⟩;obtain⟨v,rfl⟩:∃v,cargs=#[v]:=by
  have hl:=A.1
  match cargs,hl with
  |⟨[v]⟩,_=>exact⟨v,rfl⟩
 have hv:v= .int .i64 n:=(A.2 0 v _ rfl rfl).unfold;subst hv;refine (Any.strconv_Itoa Tryz.laysM171 n Ajm Ajm w (I.hyp w I.below)).mono ?_;rintro e w' ⟨rfl,k,os,rfl⟩;obtain⟨I',E⟩:=sU I k os;exact⟨_,G,_,σ,rfl,I',E,VR.sc _,rfl,rfl⟩
open Go.Abs
def DT (w:Tx):Prop:=Ad w=true\/(Ad w=false/\Lib.itoa (Al w).2=w/\0<=(Al w).2/\(Al w).2<=999)
theorem dL {b:UInt8}{m:Nat}(h:b.toNat=m):UInt8.ofNat m=b:=by rw[<-h];exact UInt8.ofNat_toNat
theorem Vy {v d:Nat}(hv:1<=v)(hd:d<=9):Lib.decDigits (v*10+d)=Lib.decDigits v++[UInt8.ofNat (48+d)]:=by
 rw[Lib.decDigits,dif_neg Ajm,show (v*10+d) / 10=v by omega,show (v*10+d) % 10=d by omega]
theorem cM {w:Tx}{m:Nat}(hv:Ad w=false)(hw:w≠[])(hn:H7 w=(m:Int))(hm:m<=999)(hd:Lib.decDigits m=w):DT w:=by
 cases w with
 |nil=>exact absurd rfl hw
 |cons b r=>
  refine .inr ⟨hv,?_⟩;rw[Mb hv];dsimp only;rw[hn];exact⟨by rw[Lib.itoa_nonneg,hd],Ajm,Ajm⟩
theorem Pm (s w r:Tx)(h:Cj s= .got w r):DT w:=by
 cases s with
 |nil=>cases h
 |cons b q=>
  unfold Cj at h;dsimp only at h;split at h
  ·rename_i hl;cases h;exact .inl hl
  rename_i hl;have hl:Bm b.toNat=false:=by simpa using hl
  split at h
  ·rename_i h0;cases h;have ad:b.toNat=48:=by
    have:(b.toNat:Int)=48:=by simpa using h0
    omega
   exact cM (m:=0) hl (by simp) (by simp[H7,ad]) Ajm (by rw[Lib.decDigits_one Ajm,dL ad])
  split at h
  ·rename_i h9;cases h;have hb:49<=b.toNat/\b.toNat<=57:=by simp[Gz]at h9;omega
   have aa:=(D8 A0 2 q).2;have ac:(Ax A0 2 q).1.length<=2:=by
    cases q with
    |nil=>simp[Ax]
    |cons c q=>
     unfold Ax;split
     ·cases q with
      |nil=>simp[Ax]
      |cons d q=>unfold Ax;split<;>simp[Ax]
     ·simp
   have ab:∀c:UInt8,A0 c.toNat=true->48<=c.toNat/\c.toNat<=57:=fun c hc=>by simp[A0]at hc;omega
   have d1:Lib.decDigits (b.toNat-48)=[b]:=by rw[Lib.decDigits_one Ajm,dL (show b.toNat=48+(b.toNat-48)by omega)]
   generalize (Ax A0 2 q).1=ds at aa ac
   match ds,aa,ac with
   |[],_,_=>exact cM (m:=b.toNat-48) hl (by simp) (by simp[H7];omega) Ajm d1
   |[c],aa,_=>
    have hc:=ab c (aa c (by simp));have d2:Lib.decDigits ((b.toNat-48)*10+(c.toNat-48))=[b,c]:=by rw[Vy Ajm Ajm,d1,dL (show c.toNat=48+(c.toNat-48)by omega)];rfl
    exact cM (m:=(b.toNat-48)*10+(c.toNat-48)) hl (by simp) (by simp[H7];omega) Ajm d2
   |[c,d],aa,_=>
    have hc:=ab c (aa c (by simp));have hd:=ab d (aa d (by simp));have d2:Lib.decDigits ((b.toNat-48)*10+(c.toNat-48))=[b,c]:=by rw[Vy Ajm Ajm,d1,dL (show c.toNat=48+(c.toNat-48)by omega)];rfl
    have d3:Lib.decDigits (((b.toNat-48)*10+(c.toNat-48))*10+(d.toNat-48))=[b,c,d]:=by rw[Vy Ajm Ajm,d2,dL (show d.toNat=48+(d.toNat-48)by omega)];rfl
    exact cM (m:=((b.toNat-48)*10+(c.toNat-48))*10+(d.toNat-48)) hl (by simp) (by simp[H7];omega) Ajm d3
  ·cases h
def Bz (l:List Tx)(s:Tx):Int:=if s∈l then ((l.idxOf s:Nat):Int)else -1
def F1 (acc:List Tx)(t:Tx):List Tx:=if Ad t=true/\t∉acc then acc++[t]else acc
def Hn (acc:List Tx)(ts:List Tx):List Tx:=ts.foldl F1 acc
def A5 (x:RItem):List Tx:=Hn [] ((Ae x).flatMap (·.terms))
theorem U9 (ts:List Tx):∀acc,(Hn acc ts).length<=acc.length+ts.length:=by
 induction ts with
 |nil=>intro acc;simp[Hn]
 |cons t ts ih=>
  intro acc;have:=ih (F1 acc t);have h2:(F1 acc t).length<=acc.length+1:=by unfold F1;split<;>simp
  simp only[Hn,Agv,Ahj]at*
  omega
theorem sG (acc ts:List Tx)(t:Tx):Hn acc (ts++[t])=F1 (Hn acc ts) t:=by simp[Hn]
def Jp (k:Int):UInt8:=UInt8.ofNat (IntKind.u8.wrap (IntKind.i64.wrap (65+Int.tmod k 26))).toNat
def Gt (l:List Tx)(t:Tx):Tx:=if Ad t=true then [Jp (Bz l t)]else t
def wrS (k:Nat):Tx:=if k=0 then [40]else [44]
def Kg (l:List Tx):Nat->List Tx->Tx
 |_,[]=>[]
 |k,t::ts=>wrS k++Gt l t++Kg l (k+1) ts
theorem X3 (l:List Tx):∀(ts:List Tx) (k:Nat) (t:Tx),Kg l k (ts++[t])=Kg l k ts++(wrS (k+ts.length)++Gt l t)
 |[],k,t=>by simp[Kg]
 |u::ts,k,t=>by
  rw[Aho,Kg,X3 l ts (k+1) t,Kg];simp only[Ahc,Ahj];rw[show k+1+ts.length=k+(ts.length+1)by omega]
def Io (l:List Tx)(a:RAtom):Tx:=(if a.nt=true then [33]else [])++a.pred++Kg l 0 a.terms++[41]
def short (a:RAtom):Prop:=a.pred.length<=1000/\a.terms.length<=1000/\∀t∈a.terms,t.length<=1000
theorem nZ (l:List Tx)(t:Tx)(h:t.length<=1000):(Gt l t).length<=1000:=by unfold Gt;split<;>simp[h]
theorem Td (l:List Tx):∀(ts:List Tx) (k:Nat),(∀t∈ts,t.length<=1000)->(Kg l k ts).length<=ts.length*1001
 |[],k,h=>by simp[Kg]
 |t::ts,k,h=>by
  have h1:=nZ l t (h t (by simp));have h2:=Td l ts (k+1) fun u hu=>h u (by simp[hu]);have h3:(wrS k).length=1:=by unfold wrS;split<;>rfl
  simp only[Kg,Aha,Ahj];omega
def qV (j:Nat):Tx:=if j=0 then [58,45]else [44]
def H3 (l:List Tx):Nat->List RAtom->Tx
 |_,[]=>[]
 |j,a::ls=>qV j++Io l a++H3 l (j+1) ls
theorem X4 (l:List Tx):∀(ls:List RAtom) (j:Nat) (a:RAtom),H3 l j (ls++[a])=H3 l j ls++(qV (j+ls.length)++Io l a)
 |[],j,a=>by simp[H3]
 |b::ls,j,a=>by
  rw[Aho,H3,X4 l ls (j+1) a,H3];simp only[Ahc,Ahj];rw[show j+1+ls.length=j+(ls.length+1)by omega]
theorem Tc {l:List Tx}{a:RAtom}(h:short a):(Io l a).length<=1002003:=by
 obtain⟨h1,h2,h3⟩:=h;have h4:=Td l a.terms 0 h3;have h5:(if a.nt=true then ([33]:Tx)else []).length<=1:=by split<;>simp
 simp only[Io,Aha,Ah1];omega
theorem Aaq (j:Nat):(qV j).length<=2:=by unfold qV;split<;>simp
def Dh (x:RItem):Tx:=if x.out=true then 63::x.head.pred++[46]else Io (A5 x) x.head++H3 (A5 x) 0 x.body++[46]
def RItem.short (x:RItem):Prop:=Go.Proofs.YtmoeoppbmhfbpabGreatDoorL.short x.head/\∀a∈x.body,Go.Proofs.YtmoeoppbmhfbpabGreatDoorL.short a
theorem jK {x:RItem}(hx:x.fits):((Ae x).flatMap (·.terms)).length<=1001*1000:=by
 have h1:=hx.atoms;have aa:∀a∈Ae x,a.terms.length<=1000:=by
  intro a ha;unfold Ae at ha;rcases Ahs.1 ha with h|h
  ·split at h
   ·cases h
   ·simp at h;subst h;exact hx.2.1
  ·exact hx.2.2 a h
 generalize Ae x=ls at h1 aa;have:(ls.flatMap (·.terms)).length<=ls.length*1000:=by
  clear h1;induction ls with
  |nil=>simp
  |cons a ls ih=>
   have h2:=ih fun b hb=>aa b (by simp[hb]);have h3:=aa a (by simp);simp only[Ah3,Aha,Ahj];omega
 omega
theorem xN {x:RItem}(hx:x.fits):(A5 x).length<=10000000:=by
 have h1:=U9 ((Ae x).flatMap (·.terms)) [];have h2:=jK hx;unfold A5;rw[Ahi,Ag9]at h1;omega
def Ck (l:List RItem):Tx:=l.flatMap Dh
theorem dC {l:List Tx}:∀(ls:List RAtom) (j:Nat),(∀a∈ls,short a)->(H3 l j ls).length<=ls.length*1002010
 |[],j,h=>by simp[H3]
 |a::ls,j,h=>by
  have h1:=Tc (l:=l) (h a (by simp));have h2:=dC (l:=l) ls (j+1) fun b hb=>h b (by simp[hb]);have h3:=Aaq j;simp only[H3,Aha,Ahj];omega
theorem Ox {x:RItem}(hx:x.fits)(hs:x.short):(Dh x).length<=1100000000:=by
 have h1:=Tc (l:=A5 x) hs.1;have h2:=dC (l:=A5 x) x.body 0 hs.2;have h3:=hx.1;have h4:=hs.1.1;unfold Dh;split
 ·simp;omega
 ·simp only[Aha,Ah1];omega
theorem rC {ts:List Tx}{t:Tx}(h:t∈ts):t.length<=(B6 ts).length:=by
 induction ts with
 |nil=>cases h
 |cons u ts ih=>
  unfold B6 at*
  simp only[Ah3,Aha,Ahj];rcases Ahm.1 h with rfl|h
  ·omega
  ·have:=ih h;omega
theorem Yd {ts:List Tx}{t:Tx}(h:t∈ts):t.length<=(Bl ts).length:=by
 cases ts with
 |nil=>cases h
 |cons u ts=>
  unfold Bl;simp only[Aha];rcases Ahm.1 h with rfl|h
  ·omega
  ·have:=rC h;omega
theorem Rh {a:RAtom}(hw:a.terms.length<=3)(h:(A7 a).length<=1000):short a:=by
 unfold A7 at h;simp only[Aha,Ahj]at h;refine⟨Ajm,Ajm,fun t ht=>?_⟩;have:=Yd ht;omega
theorem dI {x:RItem}(hw:Cl x)(h:(Be x).length<=1000):x.short:=by
 obtain⟨-,h2,h3⟩:=hw;unfold Be at h;cases ho:x.out with
 |true=>
  rw[if_pos ho]at h;obtain⟨-,q1,q2⟩:=h2 ho;simp only[Ahj]at h;exact⟨⟨Ajm,by simp[q1],by simp[q1]⟩,by simp[q2]⟩
 |false=>
  rw[if_neg (by rw[ho];simp)]at h;obtain⟨q1,-,q2,q3⟩:=h3 ho;unfold Di at h;simp only[Aha]at h;refine⟨Rh q1.2.2.1 Ajm,fun a ha=>?_⟩;have aa:x.body≠[]:=by intro e;rw[e]at ha;cases ha
  rw[if_neg aa]at h;simp only[Ahj]at h;have hm:=Yd (List.mem_map_of_mem (f:=B9) ha);have hl:(A7 a).length<=(B9 a).length:=by unfold B9;simp
  exact Rh (q3 a ha).2.2.1 Ajm
theorem kR {l:List RItem}{x:RItem}(h:x∈l):(Be x).length<=(Bv l).length:=by
 induction l with
 |nil=>cases h
 |cons y l ih=>
  unfold Bv at*
  simp only[Ah3,Aha];rcases Ahm.1 h with rfl|h
  ·omega
  ·have:=ih h;omega
theorem Rm {s:Tx}{l:List RItem}{r:Tx}(hs:s.length<=1000)(h:Br 16 s= .got l r):∀x∈l,x.short:=by
 obtain⟨h1,-,-,h4⟩:=Ey _ _ _ _ h;intro x hx;have:=kR hx;rw[<-h1]at this;exact dI (h4 x hx) Ajm
def encI (t:Tx):AV:=sc (.int .i64 (Al t).2)
theorem iA {l:List Tx}{k:Nat}(h:k<l.length):(l.map encI).drop k=sc (.int .i64 (Al l[k]).2)::(l.map encI).drop (k+1):=by
 rw[Ahl (by simpa using h)];simp[encI]
def VL (l:List Tx):Prop:=∀t∈l,VT t/\Ad t=true
theorem qF {t u:Tx}(ht:VT t)(hu:VT u)(vt:Ad t=true)(vu:Ad u=true)(h:(Al t).2=(Al u).2):t=u:=by
 have:=yI ht hu vu;unfold Oi at this;rw[K0 ht,vt,h]at this;simpa using this.symm
theorem Pk (l:List Tx)(ids:Nat)(t:Tx)(hl:l.length<=10000000)(hL:VL l)(ht:VT t)(hv:Ad t=true)(σ:St):ACalls Tryz.prog 85 [sc (.int .i64 (Al t).2),sl ids l.length (l.map encI)] σ fun x σ'=>x=sc (.int .i64 (Bz l t))/\σ'=σ:=by
 have aa:∀u∈l,(Al u).2=(Al t).2->u=t:=fun u hu h=>qF (hL u hu).1 ht (hL u hu).2 hv h;generalize aj:(Al t).2=v at aa;have ao:Ajs _:=aj;clear aj;refine Z9 19 [.tmp 4] Tryz.func85 ?_
 repeat' (first|refine Z1 ?_|(refine Z8 ?_;intro κ hκ)|(refine Z4 ?_;clear hκ κ)|(refine Z2 ?_ ?_<;>intro h ab<;>try exact Xp)|refine Z3 ?_|exact⟨⟩|(apply hκ.out;clear hκ κ))
 refine Af (fun m s' σ'=>∃i:Nat,m=l.length-i/\i<=l.length/\s' 0=sc (.int .i64 v)/\s' 7=sl ids l.length (l.map encI)/\s' 8=sc (.int .i64 l.length)/\s' 9=sc (.int .i64 i)/\σ'=σ/\Ajs (∀a,a<i->l[a]?≠some t)) l.length
  ⟨0,Ajm,Ajm,rfl,rfl,rfl,rfl,rfl,fun a ha=>Ajm⟩ ?_
 rintro m s' σ' ⟨i,rfl,hi,h0,h7,h8,h9,hσ,ad⟩;subst hσ;by_cases af:i<l.length
 ·have ai:=iA af;have HX:Ajs (l[i]?=some l[i]):=List.getElem?_eq_getElem af;have ac:=aa l[i] (Ah6 af);generalize l[i]=w at ai HX ac;generalize ah:(Al w).2=vw at ai ac;have an:Ajs _:=ah;have ap:Ajs _:=ac;clear ah ac aa
  repeat' (first|refine Z1 ?_|(refine Z8 ?_;intro κ hκ)|(refine Z4 ?_;clear hκ κ)|(refine Z2 ?_ ?_<;>intro h ab<;>try exact Xp)|refine Z3 ?_|exact⟨⟩|(apply hκ.out;clear hκ κ))
  ·have hw:w=t:=ap.out (by simpa using h);have ae:t∈l:=by rw[<-hw];exact Agp HX.out
   exact⟨_,rfl,by rw[Bz,if_pos ae,Q2 ad.out (by rw[HX.out,hw])]⟩
  ·have hw:w≠t:=by
    rintro rfl;have:vw=v:=by rw[<-an.out,<-ao.out]
    simp[this]at h
   refine⟨l.length-(i+1),Ajm,i+1,rfl,Ajm,by simp,?_⟩;intro a ha;by_cases am:a=i
   ·subst am;rw[HX.out];simpa using hw
   ·exact ad.out a Ajm
 ·have hil:i=l.length:=Ajm;subst hil;have ak:=Vb ad.out;clear aa
  repeat' (first|refine Z1 ?_|(refine Z8 ?_;intro κ hκ)|(refine Z4 ?_;clear hκ κ)|(refine Z2 ?_ ?_<;>intro h ab<;>try exact Xp)|refine Z3 ?_|exact⟨⟩|(apply hκ.out;clear hκ κ))
  exact⟨_,rfl,by rw[Bz,if_neg ak]⟩
theorem Ac5 {l:List Tx}{t:Tx}(h:VL l)(ht:VT t):VL (F1 l t):=by
 unfold F1;split
 ·rename_i hc;intro u hu;rcases Ahs.1 hu with hu|hu
  ·exact h u hu
  ·simp at hu;subst hu;exact⟨ht,hc.1⟩
 ·exact h
theorem Qj (N:List Tx)(ls:List RAtom)(cs:List AV)(ida:Nat)(hE:EL (PC N) ls cs)(hV:∀a∈ls,VA a)(hn:ls.length<=1001)(a9:∀a∈ls,a.terms.length<=1000)(σ:St):
  ACalls Tryz.prog 150 [sl ida ls.length cs] σ fun r σ'=>∃id,r=sl id (Hn [] (ls.flatMap (·.terms))).length ((Hn [] (ls.flatMap (·.terms))).map encI)/\VL (Hn [] (ls.flatMap (·.terms)))/\Keep σ σ':=by
 have bf:=EL.length Wo hE;refine Z9 39 [.tmp 2] Tryz.func150 ?_
 repeat' (first|refine Z1 ?_|(refine Z8 ?_;intro κ hκ)|(refine Z4 ?_;clear hκ κ)|(refine Z2 ?_ ?_<;>intro h af<;>try exact Xp)|(refine Z6 ?_;intro idn σn aj ak ae ab ad aa)|refine Z3 ?_|exact⟨⟩|(apply hκ.out;clear hκ κ))
 refine Af (fun m s σ'=>∃(j i3:Nat) (l:List Tx),m=ls.length-j/\j<=ls.length/\s 3=sl i3 l.length (l.map encI)/\s 9=sl ida ls.length cs/\s 10=sc (.int .i64 ls.length)/\s 11=sc (.int .i64 j)/\Keep σ σ'/\Own σ σ' i3 l.length/\l.length<=j*1000/\Ajs (VL l)/\Ajs (l=Hn [] ((ls.take j).flatMap (·.terms)))) ls.length
  ⟨0,1,[],Ajm,Ajm,rfl,rfl,rfl,rfl,Keep.refl _,Own.nil _ _,by simp,(fun t ht=>by cases ht),by simp[Ajs,Hn]⟩ ?_
 rintro m s σ' ⟨j,i3,l,rfl,hj,h3,h9,ay,ax,hK,hO,hll,ai,hL⟩;by_cases aw:j<ls.length
 ·have ac:=List.getElem?_eq_getElem aw;have a4:=a9 ls[j] (Ah6 aw);have av:=hV ls[j] (Ah6 aw);obtain⟨ha,ia,r,hd⟩:=qS hE ac;generalize ls[j]=a at hd ac a4 ha av;have HG:Ajs (ls[j]?=some a):=ac;have bd:Ajs (VA a):=av;clear ac av;have be:=Eu a.terms;have az:=hK.nobj
  repeat' (first|refine Z1 ?_|(refine Z8 ?_;intro κ hκ)|(refine Z4 ?_;clear hκ κ)|(refine Z2 ?_ ?_<;>intro h af<;>try exact Xp)|(refine Z6 ?_;intro idn σn aj ak ae ab ad aa)|refine Z3 ?_|exact⟨⟩|(apply hκ.out;clear hκ κ))
  refine Af (fun m s σ'=>∃(k i3:Nat) (l:List Tx),m=a.terms.length-k/\k<=a.terms.length/\s 3=sl i3 l.length (l.map encI)/\s 9=sl ida ls.length cs/\s 10=sc (.int .i64 ls.length)/\s 11=sc (.int .i64 j)/\s 16=sl ia a.terms.length (Aw a.terms)/\s 17=sc (.int .i64 a.terms.length)/\s 18=sc (.int .i64 k)/\Keep σ σ'/\Own σ σ' i3 l.length/\l.length<=j*1000+k/\Ajs (VL l)/\Ajs (l=Hn [] ((ls.take j).flatMap (·.terms)++a.terms.take k))) a.terms.length
   ⟨0,i3,l,Ajm,Ajm,by simp[upd,h3],by simp[upd,h9],by simp[upd,ay],by simp[upd,ax],Ajo,rfl,rfl,(hK.new _).put hK.nobj _,Own.put (Own.new hO _) _ _,Ajm,ai,by simpa using hL⟩ ?_
  clear hK hO hL hll ai h3 h9 ay ax az l;rintro m s σ' ⟨k,i3,l,rfl,hk,h3,h9,ay,ax,bi,bh,bg,hK,hO,hll,ai,hL⟩;have az:=hK.nobj;by_cases am:k<a.terms.length
  ·have ac:=List.getElem?_eq_getElem am;have ap:=bd.out a.terms[k] (Ah6 am);obtain⟨r2,an⟩:=Fz ac;generalize a.terms[k]=w at an ac ap;have ah:Ajs (Hn [] ((ls.take j).flatMap (·.terms)++a.terms.take (k+1))=F1 l w):=by
    rw[Ajs,Agz,ac,Aia,<-Ahc,sG,<-hL.out]
   have bc:Ajs (VL (F1 l w)):=Ac5 ai.out ap;clear ac;have au:=K0 ap;cases hv:Ad w with
   |true=>
    rw[hv]at au;rw[au]at an;have hP:=fun σ=>Pk l i3 w Ajm ai.out ap hv σ;generalize a0:(Al w).2=w2 at an hP;have bb:Ajs _:=a0;clear a0
    repeat' (first|refine Z1 ?_|(refine Z8 ?_;intro κ hκ)|(refine Z4 ?_;clear hκ κ)|(refine Z2 ?_ ?_<;>intro h af<;>try exact Xp)|(refine Z6 ?_;intro idn σn aj ak ae ab ad aa)|(refine Z5 ?_;refine Xi (hP _) ?_;rintro _ _ ⟨rfl,rfl⟩)|refine Z3 ?_|exact⟨⟩|(apply hκ.out;clear hκ κ))
    ·have ao:Bz l w= -1:=by simpa using h
     have a5:w∉l:=fun hm=>by rw[Bz,if_pos hm]at ao;omega
     have ba:Keep σ ((σ'.new [sc (.bool false),sc (.int .i64 0)]).put σ'.nobj [sc (.bool true),sc (.int .i64 w2)]):=(hK.new _).put hK.nobj _;refine Bh (by first|exact Qm) ba (Own.put (Own.new hO _) _ _) (by decide) (by rfl) (by simp) (by rfl) (by rfl) (by decide) Ajm Ajm ?_;intro idn σn aj ak ae ab ad aa;refine Z3 ?_
     repeat' (first|refine Z1 ?_|(refine Z8 ?_;intro κ hκ)|(refine Z4 ?_;clear hκ κ)|(refine Z2 ?_ ?_<;>intro h af<;>try exact Xp)|(refine Z6 ?_;intro idn σn aj ak ae ab ad aa)|refine Z3 ?_|exact⟨⟩|(apply hκ.out;clear hκ κ))
     have a3:F1 l w=l++[w]:=by rw[F1,if_pos ⟨hv,a5⟩]
     refine⟨a.terms.length-(k+1),Ajm,k+1,idn,l++[w],rfl,Ajm,?_,by simp,by simpa using aj,by simp;omega,by rw[<-a3];exact bc,by rw[Ajs,ah.out,a3]⟩;simp[encI,bb.out]
    ·have ao:Bz l w≠ -1:=by simpa using h
     have a8:w∈l:=by
      by_cases hm:w∈l
      ·exact hm
      ·rw[Bz,if_neg hm]at ao;exact absurd rfl ao
     refine⟨a.terms.length-(k+1),Ajm,k+1,i3,l,rfl,Ajm,rfl,by simp,(hK.new _).put hK.nobj _,Own.put (Own.new hO _) _ _,Ajm,ai,?_⟩;rw[Ajs,ah.out,F1,if_neg (fun h=>h.2 a8)]
   |false=>
    rw[hv]at au;rw[au]at an;generalize (Al w).2=w2 at an
    repeat' (first|refine Z1 ?_|(refine Z8 ?_;intro κ hκ)|(refine Z4 ?_;clear hκ κ)|(refine Z2 ?_ ?_<;>intro h af<;>try exact Xp)|(refine Z6 ?_;intro idn σn aj ak ae ab ad aa)|refine Z3 ?_|exact⟨⟩|(apply hκ.out;clear hκ κ))
    refine⟨a.terms.length-(k+1),Ajm,k+1,i3,l,rfl,Ajm,rfl,by simp,(hK.new _).put hK.nobj _,Own.put (Own.new hO _) _ _,Ajm,ai,?_⟩;rw[Ajs,ah.out,F1,if_neg (fun h=>by rw[hv]at h;cases h.1)]
  ·have a6:k=a.terms.length:=Ajm;subst a6;rw[Agw]at hL
   repeat' (first|refine Z1 ?_|(refine Z8 ?_;intro κ hκ)|(refine Z4 ?_;clear hκ κ)|(refine Z2 ?_ ?_<;>intro h af<;>try exact Xp)|(refine Z6 ?_;intro idn σn aj ak ae ab ad aa)|refine Z3 ?_|exact⟨⟩|(apply hκ.out;clear hκ κ))
   exact⟨ls.length-(j+1),Ajm,j+1,i3,l,rfl,Ajm,rfl,by simp,hO,Ajm,ai,by rw[Ajs,Agz,HG.out];simpa using hL.out⟩
 ·have a7:j=ls.length:=Ajm;subst a7;rw[Agw]at hL
  repeat' (first|refine Z1 ?_|(refine Z8 ?_;intro κ hκ)|(refine Z4 ?_;clear hκ κ)|(refine Z2 ?_ ?_<;>intro h af<;>try exact Xp)|(refine Z6 ?_;intro idn σn aj ak ae ab ad aa)|refine Z3 ?_|exact⟨⟩|(apply hκ.out;clear hκ κ))
  rw[<-hL.out]
  first|exact⟨_,rfl,i3,rfl,ai.out,hK⟩|exact⟨_,rfl,i3,rfl,ai.out⟩
def J0 (l:List Tx)(t:Tx):List AV:=[sc (.bool (Ad t)),sc (.int .i64 (if Ad t=true then Bz l t else (Al t).2))]
def Dp (l:List Tx)(ts:List Tx):List AV:=ts.flatMap (J0 l)
theorem lM (l ts:List Tx):(Dp l ts).length=ts.length*2:=by
 induction ts with
 |nil=>rfl
 |cons a ts ih=>unfold Dp at*;rw[Ah3,Aha,ih];simp[J0];omega
theorem fO (l ts:List Tx)(x:Tx):Dp l (ts++[x])=Dp l ts++J0 l x:=by simp[Dp]
theorem Pj (l:List Tx)(ido:Nat)(kp:Int)(ids:Nat)(a:RAtom)(hl:l.length<=10000000)(hL:VL l)(hV:VA a)(hn:a.terms.length<=1000)(σ:St):
  ACalls Tryz.prog 144 [ag [sc (.int .i64 kp),sl ids a.terms.length (Aw a.terms)],sl ido l.length (l.map encI)] σ fun r σ'=>∃id,r=ag [sc (.int .i64 kp),sl id a.terms.length (Dp l a.terms)]/\Keep σ σ':=by
 have a3:=Eu a.terms;have az:Ajs (VA a):=hV;clear hV;refine Z9 33 [.cell 4 122] Tryz.func144 ?_
 repeat' (first|refine Z1 ?_|(refine Z8 ?_;intro κ hκ)|(refine Z4 ?_;clear hκ κ)|(refine Z2 ?_ ?_<;>intro h ae<;>try exact Xp)|(refine Z6 ?_;intro idn σn ah ai ad aa ac ab)|refine Z3 ?_|exact⟨⟩|(apply hκ.out;clear hκ κ))
 refine Af (fun m s σ'=>∃(k i3:Nat) (xs:List AV),m=a.terms.length-k/\k<=a.terms.length/\s 1=sl ido l.length (l.map encI)/\s 4=ptr (σ.nobj+1) 0/\s 5=ptr (σ.nobj+2) 0/\s 12=sl ids a.terms.length (Aw a.terms)/\s 13=sc (.int .i64 a.terms.length)/\s 14=sc (.int .i64 k)/\Keep σ σ'/\σ.nobj+2<σ'.nobj/\σ'.obj (σ.nobj+1)=[sc (.int .i64 0),nilS]/\σ'.obj (σ.nobj+2)=[sc (.int .i64 kp),sl i3 k xs]/\Own σ σ' i3 k/\xs.length=k*2/\Ajs (xs=Dp l (a.terms.take k))) a.terms.length
  ⟨0,1,[],Ajm,Ajm,by simp[upd,initS],Ajo,Ajo,Ajo,Ajo,rfl,?_,?_,?_,?_,Own.nil _ _,by simp,by simp[Ajs,Dp]⟩ ?_
 ·exact ((((Keep.refl σ).new _).new _).new _).put Ajm _
 ·simp only[Ab,Aa];omega
 ·rw[Ai Ajm,Ag Ajq,Bt (by rw[Aa];omega) (by rw[Aa];omega)]
 ·rw[show σ.nobj+2=σ.nobj+1+1 by omega,Ak]
 rintro m s σ' ⟨k,i3,xs,rfl,hk,h1,h4,h5,a7,a6,a5,hK,a4,ax,aw,hO,au,hX⟩;have a0:=hK.nobj;by_cases av:k<a.terms.length
 ·have af:=List.getElem?_eq_getElem av;have ao:=az.out a.terms[k] (Ah6 av);obtain⟨r2,ak⟩:=Fz af;generalize a.terms[k]=w at ak af ao;have aj:Ajs (Dp l (a.terms.take (k+1))=xs++J0 l w):=by
   rw[Ajs,Agz,af,Aia,fO,<-hX.out]
  clear af;have an:=K0 ao;cases hv:Ad w with
  |true=>
   rw[hv]at an;rw[an]at ak;have hP:=fun σ=>Pk l ido w hl hL ao hv σ;have am:Ajs (J0 l w=[sc (.bool true),sc (.int .i64 (Bz l w))]):=by simp[Ajs,J0,hv]
   generalize (Al w).2=w2 at ak hP
   repeat' (first|refine Z1 ?_|(refine Z8 ?_;intro κ hκ)|(refine Z4 ?_;clear hκ κ)|(refine Z2 ?_ ?_<;>intro h ae<;>try exact Xp)|(refine Z6 ?_;intro idn σn ah ai ad aa ac ab)|(refine Z5 ?_;refine Xi (hP _) ?_;rintro _ _ ⟨rfl,rfl⟩)|refine Z3 ?_|exact⟨⟩|(apply hκ.out;clear hκ κ))
   have ap:Keep σ (((σ'.new [sc (.bool false),sc (.int .i64 0)]).put σ'.nobj [sc (.bool true),sc (.int .i64 w2)]).put σ'.nobj [sc (.bool true),sc (.int .i64 (Bz l w))]):=((hK.new _).put hK.nobj _).put hK.nobj _;refine Bh (by first|exact Eb) ap (Own.put (Own.put (Own.new hO _) _ _) _ _) (by decide) (by rfl) au (by rfl) (by rfl) (by decide) Ajm Ajm ?_;intro idn σn ah ai ad aa ac ab;simp only[Ab,Aa]at aa;refine Z3 ?_
   repeat' (first|refine Z1 ?_|(refine Z8 ?_;intro κ hκ)|(refine Z4 ?_;clear hκ κ)|(refine Z2 ?_ ?_<;>intro h ae<;>try exact Xp)|(refine Z6 ?_;intro idn σn ah ai ad aa ac ab)|refine Z3 ?_|exact⟨⟩|(apply hκ.out;clear hκ κ))
   refine⟨a.terms.length-(k+1),Ajm,k+1,idn,_,rfl,Ajm,by simp,ai.put Ajm _,Ajm,rfl,Own.put ah _ _,by simp;omega,?_⟩;rw[Ajs,aj.out,am.out]
  |false=>
   rw[hv]at an;rw[an]at ak;have am:Ajs (J0 l w=[sc (.bool false),sc (.int .i64 (Al w).2)]):=by simp[Ajs,J0,hv]
   generalize (Al w).2=w2 at ak am
   repeat' (first|refine Z1 ?_|(refine Z8 ?_;intro κ hκ)|(refine Z4 ?_;clear hκ κ)|(refine Z2 ?_ ?_<;>intro h ae<;>try exact Xp)|(refine Z6 ?_;intro idn σn ah ai ad aa ac ab)|refine Z3 ?_|exact⟨⟩|(apply hκ.out;clear hκ κ))
   have ap:Keep σ ((σ'.new [sc (.bool false),sc (.int .i64 0)]).put σ'.nobj [sc (.bool false),sc (.int .i64 w2)]):=(hK.new _).put hK.nobj _;refine Bh (by first|exact Eb) ap (Own.put (Own.new hO _) _ _) (by decide) (by rfl) au (by rfl) (by rfl) (by decide) Ajm Ajm ?_;intro idn σn ah ai ad aa ac ab;simp only[Ab,Aa]at aa;refine Z3 ?_
   repeat' (first|refine Z1 ?_|(refine Z8 ?_;intro κ hκ)|(refine Z4 ?_;clear hκ κ)|(refine Z2 ?_ ?_<;>intro h ae<;>try exact Xp)|(refine Z6 ?_;intro idn σn ah ai ad aa ac ab)|refine Z3 ?_|exact⟨⟩|(apply hκ.out;clear hκ κ))
   refine⟨a.terms.length-(k+1),Ajm,k+1,idn,_,rfl,Ajm,by simp,ai.put Ajm _,Ajm,rfl,Own.put ah _ _,by simp;omega,?_⟩;rw[Ajs,aj.out,am.out]
 ·have ay:k=a.terms.length:=Ajm;subst ay;rw[Agw]at hX
  repeat' (first|refine Z1 ?_|(refine Z8 ?_;intro κ hκ)|(refine Z4 ?_;clear hκ κ)|(refine Z2 ?_ ?_<;>intro h ae<;>try exact Xp)|(refine Z6 ?_;intro idn σn ah ai ad aa ac ab)|refine Z3 ?_|exact⟨⟩|(apply hκ.out;clear hκ κ))
  exact⟨_,rfl,i3,by rw[hX.out],hK.put Ajm _⟩
theorem Sb (N:List Tx)(x:RItem)(c:List AV)(hc:PI N x c)(ho:x.out=true->x.body=[])(hx:x.fits)(hV:∀a∈Ae x,VA a)(σ:St):ACalls Tryz.prog 96 [ag c] σ fun r σ'=>∃id,r=sl id (A5 x).length ((A5 x).map encI)/\VL (A5 x)/\Keep σ σ':=by
 have hA:=Jf N x c hc ho (by have:=hx.1;omega);have ab:∀a∈Ae x,a.terms.length<=1000:=by
  intro a ha;unfold Ae at ha;rcases Ahs.1 ha with h|h
  ·split at h
   ·cases h
   ·simp at h;subst h;exact hx.2.1
  ·exact hx.2.2 a h
 have ad:=hx.atoms;have aa:=fun cs ida hE σ=>Qj N (Ae x) cs ida hE hV ad ab σ;obtain⟨hm,ih,id,b,hb,rfl⟩:=hc;unfold A5;generalize Hn [] ((Ae x).flatMap (·.terms))=lo at aa;refine Z9 6 [.tmp 2] Tryz.func96 ?_
 repeat' (first|refine Z1 ?_|(refine Z8 ?_;intro κ hκ)|(refine Z4 ?_;clear hκ κ)|(refine Z2 ?_ ?_<;>intro h ac<;>try exact Xp)|(refine Z5 ?_;first|(refine Xi (hA _) ?_;rintro _ _ ⟨ida,cs,rfl,hE,ah⟩)|(refine Xi (aa _ _ (by assumption) _) ?_;rintro _ _ ⟨id2,rfl,ae,af⟩))|refine Z3 ?_|exact⟨⟩|(apply hκ.out;clear hκ κ))
 exact⟨_,rfl,id2,rfl,Xs⟩
def RL (N l:List Tx)(a:RAtom)(c:List AV):Prop:=∃ids,c=[sc (.bool a.nt),sc (.int .i64 (N.idxOf a.pred:Nat)),sl ids a.terms.length (Dp l a.terms)]
theorem Aaf {N l:List Tx}(a:RAtom)(c:List AV)(h:RL N l a c):c.length=3:=by obtain⟨ids,rfl⟩:=h;rfl
theorem Af9 {N l:List Tx}{ls:List RAtom}{cs:List AV}{i:Nat}{a:RAtom}(h:EL (RL N l) ls cs)(hi:ls[i]?=some a):∃ia r,cs.drop (i*3)=sc (.bool a.nt)::sc (.int .i64 (N.idxOf a.pred:Nat))::sl ia a.terms.length (Dp l a.terms)::r:=by
 obtain⟨c,r,⟨ia,rfl⟩,e⟩:=EL.get Aaf h hi;exact⟨ia,r,e⟩
def RI (N l:List Tx)(x:RItem)(c:List AV):Prop:=∃ih id b,EL (RL N l) x.body b/\c=[sc (.bool x.out),sc (.int .i64 (N.idxOf x.head.pred:Nat)),sl ih x.head.terms.length (Dp l x.head.terms),sl id x.body.length b]
theorem cA (N:List Tx)(x:RItem)(c:List AV)(hc:PI N x c)(ho:x.out=true->x.body=[])(hx:x.fits)(hV:∀a∈Ae x,VA a)(bg:VA x.head)(bh:∀a∈x.body,VA a)(σ:St):
  ACalls Tryz.prog 93 [ag c] σ fun r σ'=>∃c',r=ag c'/\RI N (A5 x) x c'/\VL (A5 x)/\Keep σ σ':=by
 have a8:=fun σ=>Sb N x c hc ho hx hV σ;have a4:=xN hx;have bo:=hx.1;have be:=hx.2.2;obtain⟨hm,ih,id,b,hb,rfl⟩:=hc;have bq:=EL.length Dt hb;have aw:=fun lo ido (hl:lo.length<=10000000) hL σ=>Pj lo ido (N.idxOf x.head.pred:Nat) ih x.head hl hL bg hx.2.1 σ;have bl:=fun lo ido (a:RAtom) ia ha (hl:lo.length<=10000000) hL hv σ=>Pj lo ido (N.idxOf a.pred:Nat) ia a hl hL hv (be a ha) σ;generalize A5 x=lo at a8 a4;have aw:=fun ido hL σ=>aw lo ido a4 hL σ;refine Z9 39 [.cell 2 125] Tryz.func93 ?_
 repeat' (first|refine Z1 ?_|(refine Z8 ?_;intro κ hκ)|(refine Z4 ?_;clear hκ κ)|(refine Z2 ?_ ?_<;>intro h ai<;>try exact Xp)|(refine Z6 ?_;intro idn σn ak am af aa ae ab)|(refine Z5 ?_;refine Xi (a8 _) ?_;rintro _ _ ⟨ido,rfl,bi,a5⟩;(have aj:=a5.obj;have ao:=a5.nobj;simp only[Aa]at ao))|refine Z3 ?_|exact⟨⟩|(apply hκ.out;clear hκ κ))
 rename_i σ1;have au:σ1.obj σ.nobj=[sc (.bool x.out),sc (.int .i64 (N.idxOf x.head.pred:Nat)),sl ih x.head.terms.length (Aw x.head.terms),sl id x.body.length b]:=by
  rw[aj _ Ajq,Ag Ajq,Ap]
 have ap:σ1.obj (σ.nobj+1)=[sc (.bool false),sc (.int .i64 0),nilS,nilS]:=by
  rw[aj _ Ajq,Bt (by rw[Aa];omega) (by rw[Aa];omega)]
 have ay:Keep σ σ1:=Xs;clear aj a5;have ba:Ajs (VL lo):=bi;refine Bu (Q:=fun e s σ'=>e= .normal/\∃o i2:Nat,s 1=ptr σ.nobj 0/\s 2=ptr (σ.nobj+1) 0/\s 3=sl ido lo.length (lo.map encI)/\s 4=ptr o 0/\σ.nobj+1<o/\o<σ'.nobj/\σ'.obj σ.nobj=[sc (.bool x.out),sc (.int .i64 (N.idxOf x.head.pred:Nat)),sl ih x.head.terms.length (Aw x.head.terms),sl id x.body.length b]/\σ'.obj (σ.nobj+1)=[sc (.bool false),sc (.int .i64 0),nilS,nilS]/\σ'.obj o=[sc (.bool x.out),sc (.int .i64 (N.idxOf x.head.pred:Nat)),sl i2 x.head.terms.length (Dp lo x.head.terms),nilS]/\Keep σ σ') ?_ ?_
 ·refine A2 Aj (fun _=>True) [8] [0,1,2,3,4] 4 #[true,true,true,true,true,false,false,false,false] Ajp (fun _ _ _ h=>by cases h.1) ?_;intro κ hκ;refine Z3 ?_;refine hκ.out _ ?_;clear hκ κ;have a9:=fun σ=>aw ido ba.out σ;refine Eg (rs:=[5,7]) Ajp (by simp) ?_;intro i hi;simp only[Ahm,Ah4,Ajl]at hi;rcases hi with rfl|rfl
  ·refine Ar ?_;intro κ hκ;refine Z3 ?_;refine ACalls.mono (a9 _) ?_;rintro _ σ2 ⟨i2,rfl,ad⟩;have ac:=ad.obj;have an:=ad.nobj;refine Z3 ?_;refine hκ.out _ _ ⟨Aq ad,?_⟩;clear hκ κ;refine Eg (rs:=[6,7]) Ajp (by simp) ?_;intro i hi;simp only[Ahm,Ah4,Ajl]at hi;rcases hi with rfl|rfl
   ·refine Ar ?_;intro κ hκ;refine Z3 ?_;refine hκ.out _ _ ⟨Aq ad,?_⟩;clear hκ κ;refine Ao (i:=7) Ajp ?_;refine Ar ?_;intro κ hκ;refine Z3 ?_;refine hκ.out _ _ ⟨Aq (ad.new _),?_⟩;clear hκ κ;refine Ao (i:=8) Ajp ?_;refine Ar ?_;intro κ hκ;refine Z3 ?_;refine hκ.out _ _ ⟨Bs rfl,?_⟩;clear hκ κ;refine A3 Ajp ⟨rfl,σ2.nobj,i2,Ajo,Ajo,Ajo,Ajo,Ajm,Ajr,?_,?_,Ak,?_⟩
    ·rw[Ai Ajm,Ag Ajm,ac _ Ajm,au]
    ·rw[Ai Ajm,Ag Ajm,ac _ Ajm,ap]
    ·exact ((ay.trans ad).new _).put Ajm _
   ·refine Ar ?_;intro κ hκ;refine Z3 ?_;refine hκ.out _ _ ⟨Aq (ad.new _),?_⟩;clear hκ κ;refine Ao (i:=6) Ajp ?_;refine Ar ?_;intro κ hκ;refine Z3 ?_;refine hκ.out _ _ ⟨Aq (ad.new _),?_⟩;clear hκ κ;refine Ao (i:=8) Ajp ?_;refine Ar ?_;intro κ hκ;refine Z3 ?_;refine hκ.out _ _ ⟨Bs rfl,?_⟩;clear hκ κ;refine A3 Ajp ⟨rfl,σ2.nobj,i2,Ajo,Ajo,Ajo,Ajo,Ajm,Ajr,?_,?_,Ak,?_⟩
    ·rw[Ai Ajm,Ag Ajm,ac _ Ajm,au]
    ·rw[Ai Ajm,Ag Ajm,ac _ Ajm,ap]
    ·exact ((ay.trans ad).new _).put Ajm _
  ·refine Ar ?_;intro κ hκ;refine Z3 ?_;refine hκ.out _ _ ⟨Aq ((Keep.refl _).new _),?_⟩;clear hκ κ;refine Ao (i:=5) Ajp ?_;refine Ar ?_;intro κ hκ;refine Z3 ?_;refine ACalls.mono (a9 _) ?_;rintro _ σ2 ⟨i2,rfl,ad⟩;have ac:=ad.obj;have an:=ad.nobj;simp only[Aa]at an;refine Z3 ?_;refine hκ.out _ _ ⟨Aq (((Keep.refl _).new _).trans ad),?_⟩;clear hκ κ;refine Ao (i:=6) Ajp ?_;refine Ar ?_;intro κ hκ;refine Z3 ?_;refine hκ.out _ _ ⟨Aq (((Keep.refl _).new _).trans ad),?_⟩;clear hκ κ;refine Ao (i:=8) Ajp ?_;refine Ar ?_;intro κ hκ;refine Z3 ?_;refine hκ.out _ _ ⟨Bs rfl,?_⟩;clear hκ κ;refine A3 Ajp ⟨rfl,σ1.nobj,i2,Ajo,Ajo,Ajo,Ajo,Ajm,Ajr,?_,?_,Ak,?_⟩
   ·rw[Ai Ajm,ac _ (by rw[Aa];omega),Ag Ajm,au]
   ·rw[Ai Ajm,ac _ (by rw[Aa];omega),Ag Ajm,ap]
   ·exact ((ay.new _).trans ad).put Ajm _
 ·rintro e s σ2 ⟨rfl,o,i2,h1,h2,h3,h4,bp,a3,bb,az,ob,hK⟩;have a6:=hK.nobj;clear ay au ap ao aw
  repeat' (first|refine Z1 ?_|(refine Z8 ?_;intro κ hκ)|(refine Z4 ?_;clear hκ κ)|(refine Z2 ?_ ?_<;>intro h ai<;>try exact Xp)|(refine Z6 ?_;intro idn σn ak am af aa ae ab)|refine Z3 ?_|exact⟨⟩|(apply hκ.out;clear hκ κ))
  refine Af (fun m s σ'=>∃(k i3:Nat) (xs:List AV),m=x.body.length-k/\k<=x.body.length/\s 2=ptr (σ.nobj+1) 0/\s 3=sl ido lo.length (lo.map encI)/\s 4=ptr o 0/\s 18=sl id x.body.length b/\s 19=sc (.int .i64 x.body.length)/\s 20=sc (.int .i64 k)/\Keep σ σ'/\o<σ'.nobj/\σ'.obj (σ.nobj+1)=[sc (.bool false),sc (.int .i64 0),nilS,nilS]/\σ'.obj o=[sc (.bool x.out),sc (.int .i64 (N.idxOf x.head.pred:Nat)),sl i2 x.head.terms.length (Dp lo x.head.terms),sl i3 k xs]/\Own σ σ' i3 k/\xs.length=k*3/\Ajs (EL (RL N lo) (x.body.take k) xs)) x.body.length
   ⟨0,1,[],Ajm,Ajm,by simp[upd,h2],by simp[upd,h3],by simp[upd,h4],Ajo,Ajo,rfl,hK,a3,az,ob,Own.nil _ _,by simp,rfl⟩ ?_
  clear h1 h2 h3 h4 bb az ob hK a3 a6;rintro m s σ' ⟨k,i3,xs,rfl,hk,h2,h3,h4,bv,bu,br,hK,a3,az,ob,hO,bd,hX⟩;have a6:=hK.nobj;by_cases a7:k<x.body.length
  ·have ah:=List.getElem?_eq_getElem a7;have av:=Ah6 a7;obtain⟨ha,ia,r,hd⟩:=Ml hb ah;have hR:=fun σ=>bl lo ido x.body[k] ia av a4 ba.out (bh _ av) σ;generalize x.body[k]=a at hd ah ha hR av;have HG:Ajs (x.body[k]?=some a):=ah;clear ah av
   repeat' (first|refine Z1 ?_|(refine Z8 ?_;intro κ hκ)|(refine Z4 ?_;clear hκ κ)|(refine Z2 ?_ ?_<;>intro h ai<;>try exact Xp)|(refine Z6 ?_;intro idn σn ak am af aa ae ab)|(refine Z5 ?_;refine Xi (hR _) ?_;rintro _ _ ⟨i4,rfl,ax⟩;(have bc:=ax.obj;have a0:=ax.nobj;simp only[Aa,Ab]at a0))|refine Z3 ?_|exact⟨⟩|(apply hκ.out;clear hκ κ))
   rename_i σ4;have bn:=((hK.new [sc (.bool false),sc (.int .i64 0),nilS]).put hK.nobj _).trans ax;have bm:=Own.keep (Own.put (Own.new hO [sc (.bool false),sc (.int .i64 0),nilS]) σ'.nobj [sc (.bool a.nt),sc (.int .i64 (N.idxOf a.pred:Nat)),sl ia a.terms.length (Aw a.terms)]) ax;refine Bh (by first|exact El) ((bn.new _).put Ajm _) (Own.put (Own.new bm _) _ _) (by decide) (by rfl) bd (by rfl) (by rfl) (by decide) Ajm Ajm ?_;intro idn σn ak am af aa ae ab;simp only[Ab,Aa]at aa;refine Z3 ?_
   repeat' (first|refine Z1 ?_|(refine Z8 ?_;intro κ hκ)|(refine Z4 ?_;clear hκ κ)|(refine Z2 ?_ ?_<;>intro h ai<;>try exact Xp)|(refine Z6 ?_;intro idn σn ak am af aa ae ab)|refine Z3 ?_|exact⟨⟩|(apply hκ.out;clear hκ κ))
   refine⟨x.body.length-(k+1),Ajm,k+1,idn,_,rfl,Ajm,by simp,am.put Ajm _,Ajm,rfl,Own.put ak _ _,by simp;omega,?_⟩;rw[Ajs,Agz,HG.out];exact EL.append hX.out (EL.single ⟨i4,rfl⟩)
  ·have bf:k=x.body.length:=Ajm;subst bf;rw[Agw]at hX
   repeat' (first|refine Z1 ?_|(refine Z8 ?_;intro κ hκ)|(refine Z4 ?_;clear hκ κ)|(refine Z2 ?_ ?_<;>intro h ai<;>try exact Xp)|(refine Z6 ?_;intro idn σn ak am af aa ae ab)|refine Z3 ?_|exact⟨⟩|(apply hκ.out;clear hκ κ))
   exact⟨_,rfl,_,rfl,⟨i2,i3,xs,hX.out,rfl⟩,hK.put Ajm _⟩
theorem Oe {k:Int}(h0:0<=k)(h1:k<26):Jp k=UInt8.ofNat (IntKind.u8.wrap (65+k)).toNat:=by
 unfold Jp;rw[Int.tmod_eq_of_lt h0 h1,i64w Ajm Ajm]
def WT (l:List Tx)(a:RAtom):Prop:=∀w∈a.terms,DT w/\w.length<=1000/\(Ad w=true->0<=Bz l w/\Bz l w<26)
def WA (N l:List Tx)(a:RAtom):Prop:=a.pred∈N/\0<a.terms.length/\a.terms.length<=1000/\a.pred.length<=1000/\WT l a
structure WI (N:List Tx)(x:RItem):Prop where
 fits:x.fits
 short:x.short
 va:∀a∈Ae x,VA a
 vh:VA x.head
 vb:∀a∈x.body,VA a
 mem:x.head.pred∈N
 body:x.body.length<=5
 out:x.out=true->x.body=[]
 head:x.out=false->x.head.nt=false/\WA N (A5 x) x.head
 wa:∀a∈x.body,WA N (A5 x) a
theorem gX {acc:List Tx}{t u:Tx}(h:t∈acc\/(t=u/\Ad u=true)):t∈F1 acc u:=by
 unfold F1;split
 ·rcases h with h|⟨rfl,-⟩
  ·exact Ahs.2 (.inl h)
  ·exact Ahs.2 (.inr (by simp))
 ·rename_i hn;rcases h with h|⟨rfl,hv⟩
  ·exact h
  ·exact Classical.byContradiction fun hm=>hn ⟨hv,hm⟩
theorem Pp:∀(ts acc:List Tx) (t:Tx),(t∈acc\/(t∈ts/\Ad t=true))->t∈Hn acc ts
 |[],acc,t,h=>by
  rcases h with h|⟨h,-⟩
  ·exact h
  ·cases h
 |u::ts,acc,t,h=>by
  show t∈Hn (F1 acc u) ts;apply Pp ts;rcases h with h|⟨h,hv⟩
  ·exact .inl (gX (.inl h))
  ·rcases Ahm.1 h with rfl|h
   ·exact .inl (gX (.inr ⟨rfl,hv⟩))
   ·exact .inr ⟨h,hv⟩
theorem iR {ls:List RAtom}(h:∀a∈ls,a.terms.length<=3):(ls.flatMap (·.terms)).length<=ls.length*3:=by
 induction ls with
 |nil=>simp
 |cons a ls ih=>
  have h2:=ih fun b hb=>h b (by simp[hb]);have h3:=h a (by simp);simp only[Ah3,Aha,Ahj];omega
theorem Au {x:RItem}{a:RAtom}(h:(x.out=false/\a=x.head)\/a∈x.body):a∈Ae x:=by
 unfold Ae;rcases h with⟨h,rfl⟩|h
 ·exact Ahs.2 (.inl (by rw[h];simp))
 ·exact Ahs.2 (.inr h)
theorem Mu {x:RItem}(hw:Cl x){a:RAtom}(ha:a∈Ae x){w:Tx}(hm:w∈a.terms)(hv:Ad w=true):0<=Bz (A5 x) w/\Bz (A5 x) w<26:=by
 have h1:w∈A5 x:=Pp _ _ _ (.inr ⟨Ahr.2 ⟨a,ha,hm⟩,hv⟩);have h2:=Ah9 h1;have h3:=U9 ((Ae x).flatMap (·.terms)) [];obtain⟨q1,q2,q3⟩:=hw;have h4:(Ae x).length<=6/\∀b∈Ae x,b.terms.length<=3:=by
  cases ho:x.out with
  |true=>
   obtain⟨-,-,e⟩:=q2 ho;simp[Ae,ho,e]
  |false=>
   obtain⟨e1,-,e2,e3⟩:=q3 ho;refine⟨by simp[Ae,ho];omega,fun b hb=>?_⟩;simp[Ae,ho]at hb;rcases hb with rfl|hb
   ·exact e1.2.2.1
   ·exact (e3 b hb).2.2.1
 have h5:=iR h4.2;have h6:(A5 x).length<=18:=by
  unfold A5;rw[Ahi,Ag9]at h3;omega
 unfold Bz;rw[if_pos h1];omega
theorem Ae8 {t:Tx}{N:List Tx}{l:List RItem}{cs:List AV}{r:Tx}(hl:t.length<=1000)(hp:Br 16 t= .got l r)(hB:Bk N l cs)(af:∀x∈l,Cl x):∀x∈l,WI N x:=by
 intro x hx;have aa:=Qw 16 t l r hp x hx;have ae:=Iv (T:=DT) Pm 16 t l r hp x hx;have ab:=Rm hl hp x hx;have hm:=Hh hB.el x hx;have hw:=af x hx;have hf:=hB.fits x hx;have ac:∀a,a∈Ae x->a.pred∈N->D2 a->short a->a.terms.length<=1000->WA N (A5 x) a:=fun a ha hN hW hs hn=>
  ⟨hN,Aie.2 hW.2.1,hn,hs.1,fun w hm=>⟨ae a ha w hm,hs.2.2 w hm,fun hv=>Mu hw ha hm hv⟩⟩
 refine⟨hf,ab,aa,?_,?_,hm.1,?_,hB.out x hx,?_,?_⟩
 ·cases ho:x.out with
  |true=>intro w ad;rw[(hw.2.1 ho).2.1]at ad;cases ad
  |false=>exact aa x.head (Au (.inl ⟨ho,rfl⟩))
 ·exact fun a ha=>aa a (Au (.inr ha))
 ·cases ho:x.out with
  |true=>rw[hB.out x hx ho];simp
  |false=>exact (hw.2.2 ho).2.2.1
 ·intro ho;obtain⟨e1,e2,-⟩:=hw.2.2 ho;exact⟨e2,ac x.head (Au (.inl ⟨ho,rfl⟩)) hm.1 e1 ab.1 hf.2.1⟩
 ·intro a ha;have ho:x.out=false:=by
   cases h:x.out with
   |false=>rfl
   |true=>rw[hB.out x hx h]at ha;cases ha
  exact ac a (Au (.inr ha)) (hm.2 a ha) ((hw.2.2 ho).2.2.2 a ha) (ab.2 a ha) (hf.2.2 a ha)
def Ct (l:List Tx)(a:RAtom):RAtom:={nt:=a.nt,pred:=a.pred,terms:=a.terms.map (Gt l)}
def ren (x:RItem):RItem:={out:=x.out,head:=Ct (A5 x) x.head,body:=x.body.map (Ct (A5 x))}
theorem E9 {k:Int}(h0:0<=k)(h1:k<26):((Jp k).toNat:Int)=65+k:=by
 rw[Oe h0 h1,u8w Ajm Ajm];rw[UInt8.toNat_ofNat_of_lt' (by show (65+k).toNat<256;omega)];omega
theorem Ei {k:Int}(h0:0<=k)(h1:k<26):Bm (Jp k).toNat=true:=by
 rw[E9 h0 h1];simp[Bm];omega
theorem Jn {l:List Tx}{w:Tx}(hv:Ad w=true->0<=Bz l w/\Bz l w<26):Ad (Gt l w)=Ad w:=by
 unfold Gt;split
 ·rename_i h;obtain⟨h0,h1⟩:=hv h;rw[h];exact Ei h0 h1
 ·rfl
theorem Aet {l:List Tx}{w:Tx}(hD:DT w)(hv:Ad w=true->0<=Bz l w/\Bz l w<26):Al (Gt l w)=(Ad w,if Ad w=true then Bz l w else (Al w).2):=by
 unfold Gt;split
 ·rename_i h;obtain⟨h0,h1⟩:=hv h;rw[D1 (Ei h0 h1),E9 h0 h1,h];congr 1;omega
 ·rename_i h;have h':Ad w=false:=by simpa using h
  rw[h'];cases w with
  |nil=>rfl
  |cons b r=>rw[Mb h']
theorem Ads {N l:List Tx}{a:RAtom}(h:WA N l a):∀w∈a.terms,DT w/\(Ad w=true->0<=Bz l w/\Bz l w<26):=fun w hw=>⟨(h.2.2.2.2 w hw).1,(h.2.2.2.2 w hw).2.2⟩
theorem uF (l:List Tx):∀(ts:List Tx) (k:Nat),0<k->Kg l k ts=B6 (ts.map (Gt l))
 |[],k,_=>rfl
 |t::ts,k,hk=>by
  rw[Kg,uF l ts (k+1) Ajm,wrS,if_neg Ajm];simp[B6]
theorem qT {l ts:List Tx}(h:ts≠[]):Kg l 0 ts=40::Bl (ts.map (Gt l)):=by
 cases ts with
 |nil=>exact absurd rfl h
 |cons t ts=>rw[Kg,uF l ts 1 Ajm];simp[wrS,Bl]
theorem Ta {l:List Tx}{a:RAtom}(h:a.terms≠[]):Io l a=B9 (Ct l a):=by
 unfold Io B9 A7;rw[qT h];cases ha:a.nt<;>simp[Ct,ha]
theorem uG {l:List Tx}:∀(ls:List RAtom) (k:Nat),0<k->(∀a∈ls,a.terms≠[])->H3 l k ls=B6 ((ls.map (Ct l)).map B9)
 |[],k,_,_=>rfl
 |a::ls,k,hk,h=>by
  rw[H3,uG ls (k+1) Ajm (fun a' h'=>h a' (by simp[h'])),qV,if_neg Ajm,Ta (h a (by simp))];simp[B6]
theorem qU {l:List Tx}{ls:List RAtom}(h:∀a∈ls,a.terms≠[]):H3 l 0 ls=if ls=[]then []else 58::45::Bl ((ls.map (Ct l)).map B9):=by
 cases ls with
 |nil=>rfl
 |cons a ls=>
  rw[H3,uG ls 1 Ajm (fun a' h'=>h a' (by simp[h'])),Ta (h a (by simp)),if_neg (by simp)];simp[qV,Bl]
theorem Qg {x:RItem}(hw:Cl x):Dh x=Be (ren x)++[46]:=by
 obtain⟨-,h2,h3⟩:=hw;unfold Dh Be;cases ho:x.out with
 |true=>simp[ren,Ct,ho]
 |false=>
  obtain⟨q1,q2,-,q3⟩:=h3 ho;rw[if_neg (by simp),if_neg (by simp[ren,ho]),Ta q1.2.1,qU (fun a ha=>(q3 a ha).2.1),Tp (by simpa[Ct]using q2)];unfold Di;simp[ren]
theorem Zc {N l:List Tx}{a:RAtom}(h:D2 a)(hw:∀w∈a.terms,Ad w=true->0<=Bz l w/\Bz l w<26):D2 (Ct l a):=by
 obtain⟨h1,h2,h3,h4⟩:=h;refine⟨h1,by simpa[Ct]using h2,by simpa[Ct]using h3,fun t ht=>?_⟩;simp only[Ct,Ahv]at ht;obtain⟨w,hm,rfl⟩:=ht;unfold Gt;split
 ·rename_i hv;obtain⟨q0,q1⟩:=hw w hm hv;exact⟨by simp,fun b hb=>by simp at hb;subst hb;exact .inl (Ei q0 q1)⟩
 ·exact h4 w hm
theorem Mp {N:List Tx}{x:RItem}(hw:Cl x)(hi:WI N x):Cl (ren x):=by
 obtain⟨h1,h2,h3⟩:=hw;refine⟨h1,fun ho=>?_,fun ho=>?_⟩
 ·obtain⟨q1,q2,q3⟩:=h2 ho;exact⟨q1,by simp[ren,Ct,q2],by simp[ren,q3]⟩
 ·obtain⟨q1,q2,q3,q4⟩:=h3 ho;refine⟨Zc (N:=N) q1 (fun w hm=>(Ads (hi.head ho).2 w hm).2),q2,by simpa[ren]using q3,fun a ha=>?_⟩;simp only[ren,Ahv]at ha;obtain⟨a',aa,rfl⟩:=ha;exact Zc (N:=N) (q4 a' aa) (fun w hm=>(Ads (hi.wa a' aa) w hm).2)
theorem Sr {l:List RItem}(hw:∀x∈l,Cl x):Ck l=Bv (l.map ren):=by
 unfold Ck Bv;induction l with
 |nil=>rfl
 |cons x l ih=>
  rw[Ah3,Ag5,Ah3,Qg (hw x (by simp)),ih fun y hy=>hw y (by simp[hy])]
theorem iJ {N:List Tx}{l:List RItem}(hw:∀x∈l,Cl x)(hi:∀x∈l,WI N x):Cw (Ck l)=l.map ren:=by
 have h2:∀y∈l.map ren,Cl y:=fun y hy=>by
  obtain⟨x,hx,rfl⟩:=Ahv.1 hy;exact Mp (hw x hx) (hi x hx)
 rw[Sr hw];unfold Cw;rw[aE _ h2,Ag2]
 conv=>rhs;rw[<-Ahw (l.map ren)]
 apply Ahx;intro y hy;exact (L4 (h2 y hy)).1
end Go.Proofs.YtmoeoppbmhfbpabGreatDoorL
