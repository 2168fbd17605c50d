import Derived.Test.YtmoeoppbmhfbpabGreatDoorJEngX
set_option maxHeartbeats 32000000
set_option maxRecDepth 100000
set_option linter.all false
namespace Go.Proofs.YtmoeoppbmhfbpabGreatDoorJ
open Go.Abs
structure Gro (k:Nat)(S:Bc->Prop)(M M':MM)(d d':Int):Prop where
 len:M'.length=M.length
 oth:∀j,j≠k->(M'[j]?).map (·.2)=(M[j]?).map (·.2)
 ext:∃new:List Bc,Au M' k=Au M k++new/\new.Nodup/\(∀t∈new,S t/\t∉Au M k)/\d'=d+new.length
theorem Gro.refl (k:Nat)(S:Bc->Prop)(M:MM)(d:Int):Gro k S M M d d:=⟨rfl,fun _ _=>rfl,[],by simp,Adb,by simp,by simp⟩
theorem Gro.trans {k:Nat}{S:Bc->Prop}{M M1 M2:MM}{d d1 d2:Int}(h:Gro k S M M1 d d1)(g:Gro k S M1 M2 d1 d2):Gro k S M M2 d d2:=by
 obtain⟨n1,a1,a2,a3,a4⟩:=h.ext;obtain⟨n2,b1,b2,b3,b4⟩:=g.ext;refine⟨g.len.trans h.len,fun j hj=>(g.oth j hj).trans (h.oth j hj),n1++n2,by rw[b1,a1,Ab8],?_,?_,?_⟩
 ·rw[Adk];exact⟨a2,b2,fun x hx y hy e=>(b3 y hy).2 (by rw[a1,<-e];exact Aco.2 (.inr hx))⟩
 ·intro t ht;rcases Aco.1 ht with ht|ht
  ·exact a3 t ht
  ·exact⟨(b3 t ht).1,fun hm=>(b3 t ht).2 (by rw[a1];exact Aco.2 (.inl hm))⟩
 ·rw[b4,a4];simp;omega
theorem Gro.mono {k:Nat}{S S':Bc->Prop}{M M':MM}{d d':Int}(h:Gro k S M M' d d')(hs:∀t,S t->S' t):Gro k S' M M' d d':=by
 obtain⟨n,a1,a2,a3,a4⟩:=h.ext;exact⟨h.len,h.oth,n,a1,a2,fun t ht=>⟨hs t (a3 t ht).1,(a3 t ht).2⟩,a4⟩
theorem Gro.sub {k:Nat}{S:Bc->Prop}{M M':MM}{d d':Int}(h:Gro k S M M' d d'){t:Bc}(ht:t∈Au M k):t∈Au M' k:=by
 obtain⟨n,a1,-,-,-⟩:=h.ext;rw[a1];exact Aco.2 (.inl ht)
theorem Gro.le {k:Nat}{S:Bc->Prop}{M M':MM}{d d':Int}(h:Gro k S M M' d d'):d<=d':=by
 obtain⟨n,-,-,-,a4⟩:=h.ext;omega
def Room (M:MM)(d b:Int):Prop:=∀x∈M,(x.2.length:Int)+(b-d)<=4000
theorem Gro.room {k:Nat}{S:Bc->Prop}{M M':MM}{d d' b:Int}(h:Gro k S M M' d d')(hr:Room M d b):Room M' d' b:=by
 intro x hx;obtain⟨j,hj⟩:=List.getElem?_of_mem hx;obtain⟨n,a1,-,-,a4⟩:=h.ext;have aa:j<M.length:=by rw[<-h.len];exact (List.getElem?_eq_some_iff.1 hj).1
 have hy:=List.getElem?_eq_getElem aa;have hb:=hr _ (Ac2 aa);by_cases e:j=k
 ·subst e;unfold Au at a1;simp only[Adu,hj,hy,Option.map_some,Option.getD_some]at a1;rw[a1];simp only[Ab6];omega
 ·have:=h.oth j e;rw[hj,hy]at this;simp at this;rw[this];have:=h.le;omega
theorem Bw {M:MM}{k:Nat}{x:Nat×List Bc}(h:M[k]?=some x):Au M (k:Int)=x.2:=by simp[Au,h]
theorem vL {M:MM}{k id:Nat}{x:Nat×List Bc}{t:Bc}{S:Bc->Prop}{d:Int}(hx:M[k]?=some x)(ht:t∉x.2)(hS:S t):Gro k S M (M.set k (id,x.2++[t])) d (d+1):=by
 have hk:=(List.getElem?_eq_some_iff.1 hx).1;refine⟨by simp,fun j hj=>by rw[List.getElem?_set_ne (fun e=>hj e.symm)],[t],?_,by simp,?_,by simp⟩
 ·rw[Bw hx,Bw (x:=(id,x.2++[t])) (by simp[hk])]
 ·intro u hu;simp at hu;subst hu;rw[Bw hx];exact⟨hS,ht⟩
theorem MOb.setd {z:St}{om ot:Nat}{M:MM}{d d' b:Int}(h:MOb z om ot M d b):MOb (z.put om [fx ot 0 M.length,ic d',ic b]) om ot M d' b where
 ob:=Ak
 oc:=by rw[show (z.put om [fx ot 0 M.length,ic d',ic b]).obj ot=z.obj ot from by simp[St.put];intro e;exact absurd e.symm h.ne];exact h.oc
 lo:=h.lo
 lt:=h.lt
 ne:=h.ne
 live:=h.live
 inj:=h.inj
 t3:=h.t3
 ln:=h.ln
 pl:=h.pl
theorem KM.setd {om ot:Nat}{M M':MM}{z z':St}(h:KM om ot M M' z z')(c:List AV):KM om ot M M' z (z'.put om c):=
 ⟨h.nobj,fun o ho h1 h2=>by rw[show (z'.put om c).obj o=z'.obj o from by simp[St.put,h1]];exact h.obj o ho h1 h2,fun o ho h1 h2=>by rw[show (z'.put om c).ver o=z'.ver o from by simp[St.put,h1]];exact h.ver o ho h1 h2,h.ntop,h.top,h.mid⟩
def Ue (neg:Int->Bc->Prop)(q:Qry)(t:Bc):Prop:=∃ν,Ka neg q ν/\t=Bg q.head ν
def tL (neg:Int->Bc->Prop)(om ot:Nat)(b:Int)(V:List Int):Prop:=∀(q:Qry) (c:List AV) (k:Nat) (M:MM) (d:Int),EQ q c->O7 q->NegOk neg M q->(∀a∈q.nots,a.p≠(k:Int))->QV q->q.head.p=(k:Int)->k<M.length->Room M d b-> -1000000<=d->d<=1000000-> -1000000<=b->b<=900000->(∀v,inQ q v->v∈V)->
 ∀z,MOb z om ot M d b->ACalls Tryz.prog 139 [ptr om 0,ag c] z fun r z'=>∃M' d',MOb z' om ot M' d' b/\KM om ot M M' z z'/\Gro k (Ue neg q) M M' d d'/\d'<=1000000/\(¬b<d'->∀t,Ue neg q t->t∈Au M' k)
theorem NegOk.gro {neg:Int->Bc->Prop}{M M':MM}{q:Qry}{k:Nat}{S:Bc->Prop}{d d':Int}(h:NegOk neg M q)(aa:∀a∈q.nots,a.p≠(k:Int))(g:Gro k S M M' d d'):NegOk neg M' q:=fun a ha=>by
 obtain⟨j,x,h1,h2,h3⟩:=h a ha;have hj:j≠k:=fun e=>aa a ha (by rw[h1,e]);have:=g.oth j hj;rw[h2]at this;cases hy:M'[j]? with
 |none=>rw[hy]at this;simp at this
 |some y=>
  rw[hy]at this;simp at this;exact⟨j,y,h1,hy,fun t=>by rw[this];exact h3 t⟩
theorem Nt (neg:Int->Bc->Prop)(om ot:Nat)(b:Int)(V:List Int)(IH:∀V':List Int,V'.length<V.length->tL neg om ot b V'):tL neg om ot b V:=by
 intro q c k M d hc hA df e7 hV hk db a8 fs co ew ev cj z hM;have a9:=fun z (h:MOb z om ot M d b)=>L9 om ot M d b z h;have cm:=hA.ok.hd;have eo:q.head.ts.length<=1000:=Ad6;have bf:=fun (id:Nat) z=>Iv q.head.p id q.head.ts eo z;have bm:M[k]?=some M[k]:=List.getElem?_eq_getElem db;generalize M[k]=x at bm;have ca:=fun (id:Nat) z (h:MOb z om ot M d b)=>Jv om ot M d b q.head id k x cm hk bm z h;have bg:=fun z (h:MOb z om ot M d b)=>Wo neg q c om ot M d b hc hA df z h;have hT:Au M (k:Int)=x.2:=Bw bm;obtain⟨ih,ip,inn,pc,nc,rfl,-,-⟩:=hc;have cr:∀cs,MOb (z.new cs) om ot M d b:=fun cs=>hM.keep ((Keep.refl z).new cs);by_cases ci:b<d
 ·rw[show decide (b<d)=true from by simpa using ci]at a9;rw[hk];clear ca bf bg;refine Z9 86 [] Tryz.func139 ?_
  repeat' (first|refine Z1 ?_|(refine Z8 ?_;intro κ hκ)|(refine Z4 ?_;clear hκ κ)|(refine Z2 ?_ ?_<;>intro h aa<;>try exact Xp)|(refine Z5 ?_;refine Xi (a9 _ (hM.keep (Xs))) ?_;rintro _ _ ⟨rfl,rfl⟩)|refine Z3 ?_|exact⟨⟩|(apply hκ.out;clear hκ κ))
  first|exact⟨_,rfl,M,d,cr _,KM.ofKeep ((Keep.refl z).new _),Gro.refl _ _ _ _,co,fun h=>absurd ci h⟩|exact⟨M,d,cr _,KM.ofKeep ((Keep.refl z).new _),Gro.refl _ _ _ _,co,fun h=>absurd ci h⟩
 ·have bu:decide (b<d)=false:=by simpa using ci
  rw[bu]at a9;have ac:=bf ih;have aj:=ca ih;rw[hk]at ac aj bg;rw[hk];have bq:∀z',Keep z z'->(∀t,Ue neg q t->t∈x.2)->∃M' d',MOb z' om ot M' d' b/\KM om ot M M' z z'/\Gro k (Ue neg q) M M' d d'/\d'<=1000000/\(¬b<d'->∀t,Ue neg q t->t∈Au M' k):=fun z' d9 ax=>
   ⟨M,d,hM.keep d9,KM.ofKeep d9,Gro.refl _ _ _ _,co,fun _ t ht=>by rw[hT];exact ax t ht⟩
  have ae:Aec _:=bq;clear bq bu;cases hs:F5 q.head.ts with
  |true=>
   rw[hs]at ac;have au:=fun ν=>Mu hs ν;by_cases hm:C7 q.head∈x.2
   ·rw[show decide (C7 q.head∈x.2)=true from by simpa using hm]at aj;have ax:∀t,Ue neg q t->t∈x.2:=fun t ⟨ν,_,e⟩=>by rw[e,au];exact hm
    have cg:Aec _:=ax;clear ax au ca bf bg;refine Z9 86 [] Tryz.func139 ?_
    repeat' (first|refine Z1 ?_|(refine Z8 ?_;intro κ hκ)|(refine Z4 ?_;clear hκ κ)|(refine Z2 ?_ ?_<;>intro h aa<;>try exact Xp)|(refine Z5 ?_;first|(refine Xi (a9 _ (hM.keep (Xs))) ?_;rintro _ _ ⟨rfl,rfl⟩)|(refine Xi (ac _) ?_;rintro _ _ ⟨rfl,an⟩;(have ak:=an.nobj;have ab:=an.obj;have bn:=((Keep.refl z).new _).trans an;simp only[Aa]at ak ab))|(refine Xi (aj _ (hM.keep (Xs))) ?_;rintro _ _ ⟨rfl,b8⟩;(have b4:=bn.trans b8)))|refine Z3 ?_|exact⟨⟩|(apply hκ.out;clear hκ κ))
    first|exact⟨_,rfl,ae.out _ b4 cg.out⟩|exact ae.out _ b4 cg.out
   ·rw[show decide (C7 q.head∈x.2)=false from by simpa using hm]at aj;have fl:Aec (C7 q.head∉x.2):=hm;clear hm;have cv:∀(id:Nat) z,ACalls Tryz.prog 131 [ag [ic (k:Int),sl id q.head.ts.length (Ac q.head.ts)]] z fun r z'=>r=sc (.bool true)/\Keep z z':=fun id z=>by
     have:=bf id z;rw[hk,hs]at this;exact this
    have d8:=fun (id:Nat) z (h:MOb z om ot M d b)=>Tb om ot M d b q.head id k x cm hk bm (by
     have:=a8 x (Abm bm)
     omega) z h
    rw[hk]at d8;have b9:=Pv neg om ot M d b V.length V (Abf _);clear bf ca cr;refine Z9 86 [] Tryz.func139 ?_
    repeat' (first|refine Z1 ?_|(refine Z8 ?_;intro κ hκ)|(refine Z4 ?_;clear hκ κ)|(refine Z2 ?_ ?_<;>intro h aa<;>try exact Xp)|(refine Z5 ?_;first|(refine Xi (a9 _ (hM.keep (Xs))) ?_;rintro _ _ ⟨rfl,rfl⟩)|(refine Xi (ac _) ?_;rintro _ _ ⟨rfl,an⟩;(have ak:=an.nobj;have ab:=an.obj;have bn:=((Keep.refl z).new _).trans an;simp only[Aa]at ak ab))|(refine Xi (aj _ (hM.keep (Xs))) ?_;rintro _ _ ⟨rfl,b8⟩;(have eg:=b8.nobj;have bp:=b8.obj;have b4:=bn.trans b8;clear ac))|(refine Xi (bg _ (hM.keep (Xs))) ?_;rintro _ _ ⟨⟨c',(⟨rfl,em,ep,bw⟩|⟨q',rfl,⟨ih2,ip2,in2,pc2,nc2,rfl,cp,cq⟩,a5,dh,ah,av⟩)⟩,ai⟩))|refine Z3 ?_|exact⟨⟩|(apply hκ.out;clear hκ κ))
    ·have bd:=ai.nobj;have o4:=ai.obj z.nobj Ad6;rw[bp _ Ad6,ab _ Ad6,Ao]at o4;have az:=b4.trans ai;have ce:Aec (∀ν,¬Ka neg q ν):=bw;clear bw
     repeat' (first|refine Z1 ?_|(refine Z8 ?_;intro κ hκ)|(refine Z4 ?_;clear hκ κ)|(refine Z2 ?_ ?_<;>intro h aa<;>try exact Xp)|refine Z3 ?_|exact⟨⟩|(apply hκ.out;clear hκ κ))
     first|exact⟨_,rfl,ae.out _ (az.put Ad6 _) (fun t ⟨ν,h,_⟩=>absurd h (ce.out ν))⟩|exact ae.out _ (az.put Ad6 _) (fun t ⟨ν,h,_⟩=>absurd h (ce.out ν))
    ·have bd:=ai.nobj;have o4:=ai.obj z.nobj Ad6;rw[bp _ Ad6,ab _ Ad6,Ao]at o4;have az:=b4.trans ai;have he:q'.head=q.head:=ah.hd;have ay:NegOk neg M q':=df.sub fun a ha=>⟨a,(av a ha).1,rfl⟩;have am:eE ⟨⟨0,[]⟩,q'.parts,q'.nots⟩:=fun v hv=>a5.wf v (.inr (hv.resolve_left (by simp[A5])))
     have cw:=fun z (h:MOb z om ot M d b)=>b9 ⟨⟨0,[]⟩,q'.parts,q'.nots⟩ [ic 0,nilS,sl ip2 q'.parts.length pc2,sl in2 q'.nots.length nc2] ⟨1,ip2,in2,pc2,nc2,rfl,cp,cq⟩ (Kk a5 (by simp) (Adz _) (Adz _) am) (ay.sub fun a ha=>⟨a,ha,rfl⟩)
      (fun a ha v hv=>by
       have:a∈atomsQ q'\/a=⟨0,[]⟩:=by
        unfold atomsQ at ha⊢;simp only[Aci,Aco,Acs]at ha⊢;rcases ha with h|h|h
        ·exact .inr h
        ·exact .inl (.inr (.inl h))
        ·exact .inl (.inr (.inr h))
       rcases this with h|rfl
       ·exact hV a (ah.at_ a h) v hv
       ·cases hv) rfl (fun v hv=>by
       obtain⟨p,hp,br⟩:=S4 (q:=⟨⟨0,[]⟩,q'.parts,q'.nots⟩) am hv
       exact cj v (inQ.sub ah.at_ ⟨p.a,Jm hp,br⟩)) z h
     have e4:∀ν,Ka neg (⟨⟨0,[]⟩,q'.parts,q'.nots⟩:Qry) ν↔Ka neg q' ν:=fun ν=>Iff.rfl;have HE:Aec (q'.head=q.head):=he;simp only[he,hk];clear he b9 bg aj a9
     repeat' (first|refine Z1 ?_|(refine Z8 ?_;intro κ hκ)|(refine Z4 ?_;clear hκ κ)|(refine Z2 ?_ ?_<;>intro h aa<;>try exact Xp)|(refine Z5 ?_;first|(refine Xi (cw _ (hM.keep (Xs))) ?_;rintro _ _ ⟨⟨bb,rfl,b0⟩,bl⟩;(have cf:Aec _:=b0;clear b0;have bc:=bl.nobj;have ba:=bl.obj;simp only[Ab]at bc ba;have b5:=(az.put Ad6 _).trans bl))|(refine Xi (cv _ _) ?_;rintro _ _ ⟨rfl,bi⟩;(have c6:=bi.nobj;have cy:=bi.obj;have dl:=b5.trans bi))|(refine Xi (d8 _ _ (hM.keep (Xs))) ?_;rintro _ _ ⟨id',dk,b7⟩;(generalize b3:M.set k (id',x.2++[C7 q.head])=M7 at dk b7;have ed:Aec _:=b3;clear b3;have fo:=dk.ob;have dn:=KM.trans (KM.ofKeep dl) b7)))|refine Z3 ?_|exact⟨⟩|(apply hκ.out;clear hκ κ))
     ·exact⟨_,rfl,ae.out _ b5 (fun t ⟨ν,hν,_⟩=>absurd (cf.out.2 ⟨ν,ah.to ν hν⟩) (by rw[h];simp))⟩
     ·have dc:bb=true:=by assumption
      obtain⟨ν,hν⟩:=cf.out.1 dc;obtain⟨ν',hν',-⟩:=ah.back ν hν;have fe:Ue neg q (C7 q.head):=⟨ν',hν',(au ν').symm⟩;have ff:Gro k (Ue neg q) M M7 d (d+1):=by rw[<-ed.out];exact vL bm fl.out fe
      have e3:C7 q.head∈Au M7 k:=by
       rw[<-ed.out,Bw (x:=(id',x.2++[C7 q.head])) (by simp[db])];simp
      exact⟨_,rfl,M7,d+1,dk.setd,dn.setd _,ff,Ad6,fun _ t ⟨μ,_,e⟩=>by rw[e,au];exact e3⟩
  |false=>
   rw[hs]at ac;have cv:∀(id:Nat) z,ACalls Tryz.prog 131 [ag [ic (k:Int),sl id q.head.ts.length (Ac q.head.ts)]] z fun r z'=>r=sc (.bool false)/\Keep z z':=fun id z=>by
    have:=bf id z;rw[hk,hs]at this;exact this
   have b9:=Pv neg om ot M d b V.length V (Abf _);obtain⟨v0,vt,ch⟩:∃v0 vt,B7 [q.head]=v0::vt:=by
    cases hv:B7 [q.head]with
    |nil=>
     exfalso;have:F5 q.head.ts=true:=by
      unfold F5;rw[Abl];rintro⟨t1,t2⟩ ht;cases t1 with
      |false=>rfl
      |true=>
       have:t2∈B7 [q.head]:=(Cr _ _).2 ⟨q.head,by simp,ht⟩;rw[hv]at this;cases this
     rw[this]at hs;cases hs
    |cons v0 vt=>exact⟨v0,vt,rfl⟩
   have af:=fun (idh i:Nat) (z:St)=>Gd [q.head] [ic q.head.p,sl idh q.head.ts.length (Ac q.head.ts)] i (EL.single ⟨idh,rfl⟩) (by simp;exact cm) (by simp) z;have dx:=Ec (l:=[q.head]) (by simp;exact cm);have dw:∀v,A5 q.head.ts v=true->v∈v0::vt:=fun v hv=>by rw[<-ch];exact (Cr _ _).2 ⟨q.head,by simp,hasV_iff.1 hv⟩
   have dz:A5 q.head.ts v0=true:=by
    have:v0∈B7 [q.head]:=by rw[ch];simp
    obtain⟨a,ha,h⟩:=(Cr _ _).1 this;simp at ha;subst ha;exact hasV_iff.2 h
   rw[ch]at af dx;simp only[Acf,Ace,icells,Ab1,Ab5,hk]at af;simp only[Acf,Ace,Ab5]at dx;have c8:(v0::vt).length<=200:=by simp;omega
   clear bf ca cr ch;refine Z9 86 [] Tryz.func139 ?_
   repeat' (first|refine Z1 ?_|(refine Z8 ?_;intro κ hκ)|(refine Z4 ?_;clear hκ κ)|(refine Z2 ?_ ?_<;>intro h aa<;>try exact Xp)|(refine Z5 ?_;first|(refine Xi (a9 _ (hM.keep (Xs))) ?_;rintro _ _ ⟨rfl,rfl⟩)|(refine Xi (ac _) ?_;rintro _ _ ⟨rfl,an⟩;(have ak:=an.nobj;have ab:=an.obj;have bn:=((Keep.refl z).new _).trans an;simp only[Aa]at ak ab;clear ac))|(refine Xi (bg _ (hM.keep (Xs))) ?_;rintro _ _ ⟨⟨c',(⟨rfl,em,ep,bw⟩|⟨q',rfl,⟨ih2,ip2,in2,pc2,nc2,rfl,cp,cq⟩,a5,dh,ah,av⟩)⟩,ai⟩))|refine Z3 ?_|exact⟨⟩|(apply hκ.out;clear hκ κ))
   ·have bd:=ai.nobj;have o4:=ai.obj z.nobj Ad6;rw[ab _ Ad6,Ao]at o4;have az:=bn.trans ai;have ce:Aec (∀ν,¬Ka neg q ν):=bw;clear bw
    repeat' (first|refine Z1 ?_|(refine Z8 ?_;intro κ hκ)|(refine Z4 ?_;clear hκ κ)|(refine Z2 ?_ ?_<;>intro h aa<;>try exact Xp)|refine Z3 ?_|exact⟨⟩|(apply hκ.out;clear hκ κ))
    first|exact⟨_,rfl,ae.out _ (az.put Ad6 _) (fun t ⟨ν,h,_⟩=>absurd h (ce.out ν))⟩|exact ae.out _ (az.put Ad6 _) (fun t ⟨ν,h,_⟩=>absurd h (ce.out ν))
   ·have bd:=ai.nobj;have o4:=ai.obj z.nobj Ad6;rw[ab _ Ad6,Ao]at o4;have az:=bn.trans ai;have he:q'.head=q.head:=ah.hd;have ay:NegOk neg M q':=df.sub fun a ha=>⟨a,(av a ha).1,rfl⟩;have am:eE ⟨⟨0,[]⟩,q'.parts,q'.nots⟩:=fun v hv=>a5.wf v (.inr (hv.resolve_left (by simp[A5])))
    have cw:=fun z (h:MOb z om ot M d b)=>b9 ⟨⟨0,[]⟩,q'.parts,q'.nots⟩ [ic 0,nilS,sl ip2 q'.parts.length pc2,sl in2 q'.nots.length nc2] ⟨1,ip2,in2,pc2,nc2,rfl,cp,cq⟩ (Kk a5 (by simp) (Adz _) (Adz _) am) (ay.sub fun a ha=>⟨a,ha,rfl⟩)
     (fun a ha v hv=>by
      have:a∈atomsQ q'\/a=⟨0,[]⟩:=by
       unfold atomsQ at ha⊢;simp only[Aci,Aco,Acs]at ha⊢;rcases ha with h|h|h
       ·exact .inr h
       ·exact .inl (.inr (.inl h))
       ·exact .inl (.inr (.inr h))
      rcases this with h|rfl
      ·exact hV a (ah.at_ a h) v hv
      ·cases hv) rfl (fun v hv=>by
      obtain⟨p,hp,br⟩:=S4 (q:=⟨⟨0,[]⟩,q'.parts,q'.nots⟩) am hv
      exact cj v (inQ.sub ah.at_ ⟨p.a,Jm hp,br⟩)) z h
    have cb:EQ q' [ic (k:Int),sl ih2 q.head.ts.length (Ac q.head.ts),sl ip2 q'.parts.length pc2,sl in2 q'.nots.length nc2]:=⟨ih2,ip2,in2,pc2,nc2,by rw[he,hk],cp,cq⟩;have dd:=fun (id:Nat) z=>Pt q' _ (v0::vt) id cb a5.ok c8 z;simp only[Acf,icells,Ab1]at dd;have HE:Aec (q'.head=q.head):=he;simp only[he,hk];clear he b9 bg a9 cb;have dy:=af ih2;clear af
    repeat' (first|refine Z1 ?_|(refine Z8 ?_;intro κ hκ)|(refine Z4 ?_;clear hκ κ)|(refine Z2 ?_ ?_<;>intro h aa<;>try exact Xp)|(refine Z5 ?_;first|(refine Xi (cw _ (hM.keep (Xs))) ?_;rintro _ _ ⟨⟨bb,rfl,b0⟩,bl⟩;(have cf:Aec _:=b0;clear b0;have bc:=bl.nobj;have ba:=bl.obj;simp only[Ab]at bc ba;have b5:=(az.put Ad6 _).trans bl))|(refine Xi (cv _ _) ?_;rintro _ _ ⟨rfl,bi⟩;(have c6:=bi.nobj;have cy:=bi.obj;have dl:=b5.trans bi))|(refine Xi (dy _ _) ?_;rintro _ _ ⟨⟨idv,rfl⟩,dq⟩;(have cz:=dq.nobj;have cx:=dq.obj;simp only[Ag,Ap]at cz cx;have fa:=(dl.lay 1).trans dq))|(refine Xi (dd _ _) ?_;rintro _ _ ⟨⟨_,_,rs,rfl,⟨ih3,ip3,in3,pc3,nc3,rfl,e6,e8⟩,⟨ih4,ip4,in4,pc4,nc4,rfl,ft,fu⟩,hG,hC⟩,ea⟩;(have ef:=ea.nobj;have HC:Aec _:=hC;have HG:Aec _:=hG;clear hC hG;have fb:=fa.trans ea)))|refine Z3 ?_|exact⟨⟩|(apply hκ.out;clear hκ κ))
    ·exact⟨_,rfl,ae.out _ b5 (fun t ⟨ν,hν,_⟩=>absurd (cf.out.2 ⟨ν,ah.to ν hν⟩) (by rw[h];simp))⟩
    ·rename_i z8;have dc:bb=true:=by assumption
     have dr:EQ (A2 q' rs) [ic (A2 q' rs).head.p,sl ih3 (A2 q' rs).head.ts.length (Ac (A2 q' rs).head.ts),sl ip3 (A2 q' rs).parts.length pc3,sl in3 (A2 q' rs).nots.length nc3]:=⟨ih3,ip3,in3,pc3,nc3,rfl,e6,e8⟩;have hrs:∀v∈v0::vt,v∈rs:=fun v hv=>by
      obtain⟨ad,e,-,-⟩:=HG.out;rw[e];exact Aco.2 (.inl hv)
     have ap:O7 (A2 q' rs):=Kk a5 a5.ok.hd Ad0 Ad0 (Y7 a5.wf HC.out (fun v hv=>hrs v (dw v (by rw[<-HE.out];exact hv))));have d3:QV (A2 q' rs):=fun a ha w hw=>by
      obtain⟨a',e0,eh⟩:=Nm (rs:=rs) ⟨a,ha,hasV_iff.2 hw⟩;exact hV a' (ah.at_ a' e0) w (hasV_iff.1 eh)
     have d0:(A2 q' rs).head.p=(k:Int):=by show q'.head.p=_;rw[HE.out,hk]
     have bz:∀w,inQ (A2 q' rs) w->w∈V:=fun w hw=>cj w (inQ.sub ah.at_ (Nm hw));have be:v0∈V:=cj v0 ⟨q.head,by simp[atomsQ],dz⟩;have d4:(V.erase v0).length<V.length:=by
      rw[List.length_erase_of_mem be];have:=List.length_pos_of_mem be;omega
     have IHb:=IH (V.erase v0) d4;obtain⟨μ,hμ⟩:=cf.out.1 dc
     --what the near part brings,the query brings
     have b1:∀n t,Ue neg (Cq v0 n (A2 q' rs)) t->Ue neg q t:=fun n t ⟨ν,hν,e⟩=>by
      have h1:=(Qm ap.w).1 hν;have h2:=Vy HC.out h1 (kD (rs:=rs) hμ);obtain⟨ν',hν',ez⟩:=ah.back _ h2;refine⟨ν',hν',?_⟩;rw[e];show Bg (Ew v0 n (A2 q' rs).head) ν=_;rw[Jk];show Bg q'.head _=_;rw[HE.out];apply Eg;intro v hv;rw[ez v ⟨q'.head,by simp[atomsQ],by rw[HE.out];exact hv⟩];rw[if_pos (hrs v (dw v hv))]
     have cd:∀t,Ue neg q t->∃n∈J4 (A2 q' rs) v0,Ue neg (Cq v0 n (A2 q' rs)) t:=fun t ⟨ν,hν,e⟩=>by
      have h2:=aK (rs:=rs) (ah.to ν hν);obtain⟨p,hp,br⟩:=ap.wf v0 (.inl (by show A5 q'.head.ts v0=true;rw[HE.out];exact dz));have a6:Ll ν v0 (ν v0)=ν:=by
       funext w;unfold Ll;split
       ·rename_i e;rw[e]
       ·rfl
      refine⟨ν v0,iZ ap.w h2 ⟨p,hp,br⟩,ν,(Qm ap.w).2 (by rw[a6];exact h2),?_⟩;rw[e];show _=Bg (Ew v0 (ν v0) (A2 q' rs).head) ν;rw[Jk,a6];show _=Bg q'.head ν;rw[HE.out]
     have dt:Aec _:=b1;have dv:Aec _:=cd;have d1:=fun z=>Jt (A2 q' rs) _ v0 dr ap.ok ap.n z;have ei:=Q4 ap.n v0;have e5:=fun n z=>S9 (A2 q' rs) _ v0 n dr ap.ok z;generalize bv:J4 (A2 q' rs) v0=ns at d1 ei;have fk:Aec _:=bv;have fq:=A8 ns;have b2:∀{n:Int},∀a∈(Cq v0 n (A2 q' rs)).nots,a.p≠(k:Int):=fun {n} a ha=>by
      obtain⟨a0,h0,rfl⟩:=Acs.1 ha;exact e7 a0 (av a0 (Adj.1 h0).1).1
     have fc:Aec (∀(n:Int) (c5:List AV) (Mj:MM) (dj:Int),EQ (Cq v0 n (A2 q' rs)) c5->Gro k (Ue neg q) M Mj d dj->dj<=1000000->∀z,MOb z om ot Mj dj b->ACalls Tryz.prog 139 [ptr om 0,ag c5] z fun r z'=>∃M' d',MOb z' om ot M' d' b/\KM om ot Mj M' z z'/\Gro k (Ue neg (Cq v0 n (A2 q' rs))) Mj M' dj d'/\d'<=1000000/\(¬b<d'->∀t,Ue neg (Cq v0 n (A2 q' rs)) t->t∈Au M' k)):=fun n c5 Mj dj bo ao cn z ct=>
      IHb (Cq v0 n (A2 q' rs)) c5 k Mj dj bo (bA ap) (((ay.near rs).put v0 n).gro b2 ao) b2 (fun a ha w hw=>by
       obtain⟨⟨b',ey,eu⟩,-⟩:=Qt (q:=A2 q' rs) (v:=v0) (n:=n) (w:=w) ⟨a,ha,hasV_iff.2 hw⟩;exact d3 b' ey w (hasV_iff.1 eu)) d0 (by rw[ao.len];exact db) (ao.room a8) (by have:=ao.le;omega) cn ew ev (fun w hw=>by
       obtain⟨h1,h2⟩:=Qt hw
       exact (Ada h2).2 (bz w h1)) z ct
     clear bv b1 cd IHb IH d4 be bz cw cv dy dd ap d3 dr d0;have d7:Keep z ((((z8.new [ic 0,nilS,nilS,nilS]).new [ic 0,nilS,nilS,nilS]).put z8.nobj [ic (A2 q' rs).head.p,sl ih3 (A2 q' rs).head.ts.length (Ac (A2 q' rs).head.ts),sl ip3 (A2 q' rs).parts.length pc3,sl in3 (A2 q' rs).nots.length nc3]).put (z8.nobj+1) [ic (G1 q' rs).head.p,sl ih4 (G1 q' rs).head.ts.length (Ac (G1 q' rs).head.ts),sl ip4 (G1 q' rs).parts.length pc4,sl in4 (G1 q' rs).nots.length nc4]):=(((fb.new _).new _).put Ad6 _).put Ad6 _;generalize c7:((((z8.new [ic 0,nilS,nilS,nilS]).new [ic 0,nilS,nilS,nilS]).put z8.nobj [ic (A2 q' rs).head.p,sl ih3 (A2 q' rs).head.ts.length (Ac (A2 q' rs).head.ts),sl ip3 (A2 q' rs).parts.length pc3,sl in3 (A2 q' rs).nots.length nc3]).put (z8.nobj+1) [ic (G1 q' rs).head.p,sl ih4 (G1 q' rs).head.ts.length (Ac (G1 q' rs).head.ts),sl ip4 (G1 q' rs).parts.length pc4,sl in4 (G1 q' rs).nots.length nc4])=z9 at*
     have n9:z9.nobj=z8.nobj+2:=by rw[<-c7];rfl
     have o9:z9.obj z8.nobj=[ic (A2 q' rs).head.p,sl ih3 (A2 q' rs).head.ts.length (Ac (A2 q' rs).head.ts),sl ip3 (A2 q' rs).parts.length pc3,sl in3 (A2 q' rs).nots.length nc3]:=by rw[<-c7,Aj Ad6,Ak]
     clear c7;refine Bq (Q:=fun e s' z''=>e= .normal/\s' 0=ptr om 0/\s' 5=sl idv (vt.length+1) (ic v0::List.map ic vt)/\s' 6=ptr z8.nobj 0/\(∃idn,s' 70=sl idn ns.length (icells ns))/\s' 71=ic ns.length/\s' 72=ic 0/\Keep z9 z'') ?_ ?_
     ·refine A3 Ah (fun _=>True) [] [0,1,2,3,6] 2 #[true,true,true,true,false,false,true] Ad9 (fun _ _ _ h=>by cases h.1) ?_;intro κ hκ;refine Z3 ?_;refine hκ.out _ ?_;clear hκ κ;refine Am (i:=4) Ad9 ?_;refine Ar ?_;intro κ hκ;refine Z3 ?_;refine ACalls.mono (d1 _) ?_;rintro _ za ⟨⟨idn,rfl⟩,a4⟩;refine Z3 ?_;refine hκ.out _ _ ⟨Aq a4,?_⟩;clear hκ κ;refine Ed [5] Ad9 Ad9 (fun _ _ _ h=>by cases h.1) a4.nobj (fun o ho _=>a4.ver o ho) ?_;intro κ hκ;refine Z3 ?_;refine hκ.out _ _ ⟨rfl,?_⟩;refine⟨by simp[upd,initS],Ad8,Ad8,⟨idn,Ad8⟩,Ad7,Ad8,a4⟩
     ·rintro e s z9' ⟨rfl,g0,g5,g6,⟨idn,g70⟩,g71,g72,a4⟩;have kna:=a4.nobj;have dm:=d7.trans a4;have oa:z9'.obj z8.nobj=[ic (A2 q' rs).head.p,sl ih3 (A2 q' rs).head.ts.length (Ac (A2 q' rs).head.ts),sl ip3 (A2 q' rs).parts.length pc3,sl in3 (A2 q' rs).nots.length nc3]:=by rw[a4.obj _ Ad6,o9]
      have d6:MOb z9' om ot M d b:=hM.keep dm;have fi:om≠z8.nobj:=by have:=hM.lo;omega
      have fh:ot≠z8.nobj:=by have:=hM.lt;omega
      repeat' (first|refine Z1 ?_|(refine Z8 ?_;intro κ hκ)|(refine Z4 ?_;clear hκ κ)|(refine Z2 ?_ ?_<;>intro h aa<;>try exact Xp)|refine Z3 ?_|exact⟨⟩|(apply hκ.out;clear hκ κ))
      refine Ad (fun m s z'=>∃(j:Nat) (Mj:MM) (dj:Int),m=ns.length-j/\j<=ns.length/\s 0=ptr om 0/\s 5=sl idv (vt.length+1) (ic v0::List.map ic vt)/\s 6=ptr z8.nobj 0/\s 70=sl idn ns.length (icells ns)/\s 71=ic ns.length/\s 72=ic j/\MOb z' om ot Mj dj b/\KM om ot M Mj z z'/\z8.nobj<z'.nobj/\z'.obj z8.nobj=[ic (A2 q' rs).head.p,sl ih3 (A2 q' rs).head.ts.length (Ac (A2 q' rs).head.ts),sl ip3 (A2 q' rs).parts.length pc3,sl in3 (A2 q' rs).nots.length nc3]/\dj<=1000000/\Aec (Gro k (Ue neg q) M Mj d dj/\(¬b<dj->∀n∈ns.take j,∀t,Ue neg (Cq v0 n (A2 q' rs)) t->t∈Au Mj k))) ns.length
       ⟨0,M,d,Ad6,Ad6,g0,g5,g6,g70,g71,g72,d6,KM.ofKeep dm,Ad6,oa,co,Gro.refl _ _ _ _,fun _ n hn=>by simp at hn⟩ ?_
      clear g0 g5 g6 g70 g71 g72 d6 dm oa kna a4 o9 d7;rintro m s z' ⟨j,Mj,dj,rfl,hj,g0,g5,g6,g70,g71,g72,ct,b6,c9,ob',cn,ao⟩;by_cases ek:j<ns.length
      ·have aw:=List.getElem?_eq_getElem ek;obtain⟨r,er⟩:=Co aw;generalize ns[j]=n at er aw;have fj:Aec (ns.take (j+1)=ns.take j++[n]):=by rw[Aec,Abv,aw,Ac5]
       clear aw;have d5:=e5 n;have ec:Aec (∀c5,EQ (Cq v0 n (A2 q' rs)) c5->∀z,MOb z om ot Mj dj b->ACalls Tryz.prog 139 [ptr om 0,ag c5] z fun r z'=>∃M' d',MOb z' om ot M' d' b/\KM om ot Mj M' z z'/\Gro k (Ue neg (Cq v0 n (A2 q' rs))) Mj M' dj d'/\d'<=1000000/\(¬b<d'->∀t,Ue neg (Cq v0 n (A2 q' rs)) t->t∈Au M' k)):=fun c5 bo=>fc.out n c5 Mj dj bo ao.out.1 cn
       repeat' (first|refine Z1 ?_|(refine Z8 ?_;intro κ hκ)|(refine Z4 ?_;clear hκ κ)|(refine Z2 ?_ ?_<;>intro h aa<;>try exact Xp)|refine Z3 ?_|exact⟨⟩|(apply hκ.out;clear hκ κ))
       refine Bq (Q:=fun e s' z''=>e= .normal/\s' 0=ptr om 0/\s' 5=sl idv (vt.length+1) (ic v0::List.map ic vt)/\s' 6=ptr z8.nobj 0/\s' 70=sl idn ns.length (icells ns)/\s' 71=ic ns.length/\s' 72=ic j/\∃o c5,s' 10=ptr o 0/\o<z''.nobj/\z''.obj o=c5/\EQ (Cq v0 n (A2 q' rs)) c5/\Keep z' z'') ?_ ?_
       ·refine A3 Ah (fun _=>True) [7] [0,1,2,3,4] 3 #[true,true,true,true,true,false,false,false] Ad9 (fun _ _ _ h=>by cases h.1) ?_;intro κ hκ;refine Z3 ?_;refine hκ.out _ ?_;clear hκ κ;refine Dz (rs:=[5,6]) Ad9 (by simp) ?_;intro i hi;simp only[Aci,Ac0,Ad5]at hi;rcases hi with rfl|rfl
        ·refine Ar ?_;intro κ hκ;refine Z3 ?_;refine ACalls.mono (d5 _) ?_;rintro _ zb ⟨⟨_,rfl,ih5,ip5,in5,pc5,nc5,rfl,de,di⟩,a3⟩;have knb:=a3.nobj;refine Z3 ?_;refine hκ.out _ _ ⟨Aq a3,?_⟩;clear hκ κ;refine Am (i:=6) Ad9 ?_;refine Ar ?_;intro κ hκ;refine Z3 ?_;refine hκ.out _ _ ⟨Aq (a3.new _),?_⟩;clear hκ κ;refine Am (i:=7) Ad9 ?_;refine Ar ?_;intro κ hκ;refine Z3 ?_;refine hκ.out _ _ ⟨Bt rfl,?_⟩;clear hκ κ;refine A7 Ad9 ⟨rfl,Ad7,Ad7,Ad7,Ad7,Ad7,Ad7,zb.nobj,_,Ad8,Aeb,Ak,⟨ih5,ip5,in5,pc5,nc5,rfl,de,di⟩,(a3.new _).put knb _⟩
        ·refine Ar ?_;intro κ hκ;refine Z3 ?_;refine hκ.out _ _ ⟨Aq ((Keep.refl _).new _),?_⟩;clear hκ κ;refine Am (i:=5) Ad9 ?_;refine Ar ?_;intro κ hκ;refine Z3 ?_;refine ACalls.mono (d5 _) ?_;rintro _ zb ⟨⟨_,rfl,ih5,ip5,in5,pc5,nc5,rfl,de,di⟩,a3⟩;have knb:=a3.nobj;simp only[Aa]at knb;have obb:=a3.obj z'.nobj Aea;rw[Ao]at obb;refine Z3 ?_;refine hκ.out _ _ ⟨Aq (((Keep.refl _).new _).trans a3),?_⟩;clear hκ κ;refine Am (i:=7) Ad9 ?_;refine Ar ?_;intro κ hκ;refine Z3 ?_;refine hκ.out _ _ ⟨Bt rfl,?_⟩;clear hκ κ;refine A7 Ad9 ⟨rfl,Ad7,Ad7,Ad7,Ad7,Ad7,Ad7,z'.nobj,_,Ad8,by simp only[Ab];omega,Ak,⟨ih5,ip5,in5,pc5,nc5,rfl,de,di⟩,(((Keep.refl _).new _).trans a3).put (Abf _) _⟩
       ·rintro e s2 zc ⟨rfl,f0,f5,f6,f70,f71,f72,oo,c5,f10,fp,oc5,bo,cu⟩;have knc:=cu.nobj;have fg:=fun z=>ec.out c5 bo z;obtain⟨ih5,ip5,in5,pc5,nc5,rfl,-,-⟩:=bo;have ej:zc.obj z8.nobj=[ic (A2 q' rs).head.p,sl ih3 (A2 q' rs).head.ts.length (Ac (A2 q' rs).head.ts),sl ip3 (A2 q' rs).parts.length pc3,sl in3 (A2 q' rs).nots.length nc3]:=by rw[cu.obj _ c9,ob']
        clear ec
        repeat' (first|refine Z1 ?_|(refine Z8 ?_;intro κ hκ)|(refine Z4 ?_;clear hκ κ)|(refine Z2 ?_ ?_<;>intro h aa<;>try exact Xp)|(refine Z5 ?_;refine Xi (fg _ (ct.keep cu)) ?_;rintro _ _ ⟨M2,d2,e9,bh,eb,et,a7⟩;(have du:Aec _:=eb;have fm:Aec _:=a7;clear eb a7;have dp:=(b6.trans (KM.ofKeep cu)).trans bh;have ee:=bh.obj z8.nobj Ad6 fi.symm fh.symm;have kn2:=bh.nobj))|refine Z3 ?_|exact⟨⟩|(apply hκ.out;clear hκ κ))
        have HN:Aec (Gro k (Ue neg q) M M2 d d2/\(¬b<d2->∀n∈ns.take (j+1),∀t,Ue neg (Cq v0 n (A2 q' rs)) t->t∈Au M2 k)):=by
         refine⟨ao.out.1.trans (du.out.mono (dt.out n)),fun da u hu t ht=>?_⟩;rw[fj.out]at hu;rcases Aco.1 hu with hu|hu
         ·have fr:=du.out.le;exact du.out.sub (ao.out.2 Ad6 u hu t ht)
         ·simp at hu;subst hu;exact fm.out da t ht
        refine⟨ns.length-(j+1),Ad6,j+1,M2,d2,?_⟩
        ((repeat' with_reducible refine And.intro ?_ ?_)<;>first|exact Xq|exact (e9)|exact (dp)|exact (HN)|exact (by rw[ee,ej])|exact Xs)
      ·have en:j=ns.length:=Ad6;subst en
       repeat' (first|refine Z1 ?_|(refine Z8 ?_;intro κ hκ)|(refine Z4 ?_;clear hκ κ)|(refine Z2 ?_ ?_<;>intro h aa<;>try exact Xp)|refine Z3 ?_|exact⟨⟩|(apply hκ.out;clear hκ κ))
       refine⟨_,rfl,Mj,dj,ct,b6,ao.out.1,cn,fun da t ht=>?_⟩;obtain⟨n,hn,h1⟩:=dv.out t ht;rw[fk.out]at hn;exact ao.out.2 da n (by rw[Abt];exact hn) t h1
theorem Yn (neg:Int->Bc->Prop)(om ot:Nat)(b:Int):∀(n:Nat) (V:List Int),V.length<=n->tL neg om ot b V:=by
 intro n;induction n with
 |zero=>exact fun V hV=>Nt neg om ot b V (fun V' h=>Ad6)
 |succ n IH=>exact fun V hV=>Nt neg om ot b V (fun V' h=>IH V' Ad6)
end Go.Proofs.YtmoeoppbmhfbpabGreatDoorJ
